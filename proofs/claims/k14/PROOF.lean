import PyProof.Rows.All
import Wide.All
import OpenK.AllK
import Wide.FinOn
import HandS.Text
import HandS.ForMost
import HandS.ForExc
import HandS.IsInst
import HandS.Zip
import HandS.Star
import HandS.TupAny
import HandS.Lambda
import HandS.ExcIs
import HandS.ExcCtx
import HandS.HotCalls
import HandS.Wide
import PyProof.FactsAll.list_3
import HandS.List
import HandS.CallLocal
import PyProof.ListMulRoad
import PyProof.FactsAll.tuple_2
import HandS.TupMul
import HandS.Walk
import HandS.Iter
import HandS.Conv
import HandS.Gcd
import HandS.DictComp
import HandS.WideBits
import HandS.Rev
import HandS.Style
import KE.GoesZip
import HandS.TupLen
import HandS.SetKeys
import KE.KDictKeyed
import KE.GoesMore
import HandS.Records
import PyProof.CompFree
import PyProof.Conv_int_bool
import PyProof.WalkInts
import PyProof.SumWalkG
import PyProof.Rows.SumAny
import HandS.ExcValue
import HandS.EndTab
import KE.KNestM
import HandS.HeadHook4
import HandS.HeadWalk
import HandS.HeadNt
import HandS.Head3
import PySem.Challenge.RW_foldchains_k14_whole_known_forms
set_option Elab.async false
set_option linter.all false
set_option maxRecDepth 100000
set_option maxHeartbeats 4000000
/-! The chains and their texts in plain Lean. -/
namespace FC
open PySem L2 TL

/-! ### steps and chains -/
def tab : List (Str × List Str) :=
  [("line", ["a", "b"]), ("turn", ["m", "r", "a", "b"]), ("keep", ["m", "r"]), ("every", ["k", "r"]), ("twice", []), ("sums", []), ("anew", ["m", "r"]), ("gaps", []), ("groups", ["k"]), ("count", [])]
def bnd : List (Str × Int × Int) := [("a", -3, 3), ("b", -9, 9), ("m", 2, 3), ("k", 2, 3)]
def lohi (l : Str) (ahead : Int) : Int × Int := if l = "r" then (0, ahead - 1) else (bnd.lookup l).getD (0, 0)
def within : List Str → List V → Int → Bool
  | [], [], _ => true
  | l :: ls, .int n :: xs, ahead => !(decide (n < (lohi l ahead).1) || decide (n > (lohi l ahead).2)) && within ls xs n
  | _, _, _ => false
def stepOkN (name : Str) (rest : List V) : Bool := match tab.lookup name with
  | some ls => decide (ls.length = rest.length) && within ls rest 0
  | none => false
def stepOk : List V → Bool
  | .str name :: rest => stepOkN name rest
  | _ => false
def lims : List (Nat × List Str) := [(2, ["sums", "anew", "gaps", "groups", "count"]), (2, ["turn", "keep", "anew"]), (1, ["twice"])]
def headIn (names : List Str) : List V → Bool
  | .str n :: _ => decide (n ∈ names)
  | _ => false
def limOk (steps : List (List V)) : Bool := lims.all fun p => decide ((steps.filter (headIn p.2)).length ≤ p.1)
def chainOk (steps : List (List V)) : Bool := decide (steps.length ≤ 4) && (steps.all stepOk && limOk steps)

/-! ### texts -/
def partText : V → Str
  | .str s => s
  | .int i => Str.ofString (toString i)
  | _ => Str.empty
def stepText (ys : List V) : Str := Txt.join " " (ys.map partText)
def chainText (c : List (List V)) : Str := Txt.join " | " (c.map stepText)
def numTab : List (Str × Int) := [("-9", -9), ("-8", -8), ("-7", -7), ("-6", -6), ("-5", -5), ("-4", -4), ("-3", -3), ("-2", -2), ("-1", -1),
  ("0", 0), ("1", 1), ("2", 2), ("3", 3), ("4", 4), ("5", 5), ("6", 6), ("7", 7), ("8", 8), ("9", 9)]
def num (w : Str) : V := match numTab.lookup w with
  | some n => .int n
  | none => .non
def readStep (p : Str) : List V := match Txt.split p " " with
  | name :: ws => .str name :: ws.map num
  | [] => []
def parts (z : Str) : List Str := if z = Str.empty then [] else Txt.split z " | "
def parse (z : Str) : List (List V) := (parts z).map readStep

/-! ### joining what was split, splitting what was joined -/
theorem spl_ne (S : List Nat) : ∀ (k : Nat) (acc l : List Nat), spl S k acc l ≠ []
  | 0, acc, [] => by simp [spl]
  | k + 1, acc, [] => by simp [spl]
  | 0, acc, c :: r => by
    show (if pre S (c :: r) = true then acc :: spl S (S.length - 1) [] r else spl S 0 (acc ++ [c]) r) ≠ []
    split
    · simp
    · exact spl_ne S 0 _ r
  | k + 1, acc, c :: r => spl_ne S k acc r
theorem joinL_cons {S p : List Nat} {r : List (List Nat)} (h : r ≠ []) : joinL S (p :: r) = p ++ (S ++ joinL S r) := by
  cases r with
  | nil => exact absurd rfl h
  | cons q r => rfl
theorem joinL_spl {S : List Nat} (hS : S ≠ []) : ∀ (n : Nat) (acc l : List Nat), l.length ≤ n → joinL S (spl S 0 acc l) = acc ++ l
  | _, acc, [], _ => by simp [spl, joinL]
  | 0, acc, c :: r, h => by simp at h
  | n + 1, acc, c :: r, h => by
    have hr : r.length ≤ n := by simpa using h
    by_cases hp : pre S (c :: r) = true
    · rw [spl_hit hp, joinL_cons (spl_ne _ _ _ _), spl_pass, joinL_spl hS n [] _ (by rw [List.length_drop]; omega), List.nil_append]
      have e : (c :: r).take S.length = S := eq_of_beq hp
      have e2 := List.take_append_drop S.length (c :: r)
      rw [e] at e2
      have hd : (c :: r).drop S.length = r.drop (S.length - 1) := by
        cases S with
        | nil => exact absurd rfl hS
        | cons s S => simp
      rw [hd] at e2
      rw [e2]
    · rw [spl_miss (by simpa using hp), joinL_spl hS n (acc ++ [c]) r hr]
      simp
theorem join_split {y : Str} {s : Nat} {S : List Nat} (ey : tl y = s :: S) (hk : y.cps.all (· < 256) = true) (x : Str) : Txt.join y (Txt.split x y) = x := by
  refine ext_tl ?_
  rw [join_eq, tl_join, split_spl x y (by rw [ey]; simp) (kind_ok hk), joinL_spl (by rw [ey]; simp) _ _ _ (Nat.le_refl _), List.nil_append]
/-- a bar within blanks -/
theorem spl_bar {p rest acc : List Nat} (h : 124 ∉ p) : spl [32, 124, 32] 0 acc (p ++ ([32, 124, 32] ++ rest)) = (acc ++ p) :: spl [32, 124, 32] 0 [] rest := by
  refine spl_part (by simp) fun i hi => ?_
  have hlt : i < (p ++ ([32, 124, 32] ++ rest)).length := by rw [List.length_append]; omega
  cases e : pre [32, 124, 32] ((p ++ ([32, 124, 32] ++ rest)).drop i) with
  | false => rfl
  | true =>
    exfalso
    have e1 : ((p ++ ([32, 124, 32] ++ rest)).drop i).take 3 = [32, 124, 32] := eq_of_beq e
    have e2 := congrArg (fun l => l[1]?) e1
    simp only [List.getElem?_take, List.getElem?_drop] at e2
    by_cases hq : i + 1 < p.length
    · rw [List.getElem?_append_left hq] at e2
      simp at e2
      have : p[i + 1] = 124 := by
        rw [List.getElem?_eq_getElem hq] at e2
        exact Option.some.inj e2
      exact h (this ▸ List.getElem_mem hq)
    · have hq : i + 1 = p.length := by omega
      rw [hq, List.getElem?_append_right (Nat.le_refl _)] at e2
      simp at e2
theorem spl_barLast {p acc : List Nat} (h : 124 ∉ p) : spl [32, 124, 32] 0 acc p = [acc ++ p] := by
  refine spl_last fun i hi => ?_
  cases e : pre [32, 124, 32] (p.drop i) with
  | false => rfl
  | true =>
    exfalso
    have e1 : (p.drop i).take 3 = [32, 124, 32] := eq_of_beq e
    have e2 := congrArg (fun l => l[1]?) e1
    simp only [List.getElem?_take, List.getElem?_drop] at e2
    by_cases hq : i + 1 < p.length
    · rw [List.getElem?_eq_getElem hq] at e2
      simp at e2
      exact h (e2 ▸ List.getElem_mem hq)
    · rw [List.getElem?_eq_none (by omega)] at e2
      simp at e2
theorem spl_barJoin : ∀ {ps : List (List Nat)}, ps ≠ [] → (∀ p ∈ ps, 124 ∉ p) → spl [32, 124, 32] 0 [] (joinL [32, 124, 32] ps) = ps
  | [], h, _ => absurd rfl h
  | [p], _, hp => by
    show spl [32, 124, 32] 0 [] p = [p]
    rw [spl_barLast (hp p (List.mem_singleton.mpr rfl)), List.nil_append]
  | p :: q :: r, _, hp => by
    show spl [32, 124, 32] 0 [] (p ++ ([32, 124, 32] ++ joinL [32, 124, 32] (q :: r))) = p :: q :: r
    rw [spl_bar (hp p (List.mem_cons_self ..)), List.nil_append, spl_barJoin (by simp) fun z hz => hp z (List.mem_cons_of_mem _ hz)]
theorem tl_sp : tl (" " : Str) = 32 :: [] := by decide +kernel
theorem tl_bar : tl (" | " : Str) = [32, 124, 32] := by decide +kernel
theorem all_sp : (" " : Str).cps.all (· < 256) = true := by decide +kernel
theorem all_bar : (" | " : Str).cps.all (· < 256) = true := by decide +kernel
theorem split_bar {ps : List Str} (hne : ps ≠ []) (hp : ∀ p ∈ ps, 124 ∉ tl p) : Txt.split (Txt.join " | " ps) " | " = ps := by
  refine map_tl_inj ?_
  rw [split_spl _ _ (by rw [tl_bar]; simp) (kind_ok all_bar), join_eq, tl_join, tl_bar]
  refine spl_barJoin (fun e => hne (List.map_eq_nil_iff.mp e)) fun p h => ?_
  obtain ⟨z, hz, rfl⟩ := List.mem_map.mp h
  exact hp z hz
theorem split_sp {ps : List Str} (hne : ps ≠ []) (hp : ∀ p ∈ ps, 32 ∉ tl p) : Txt.split (Txt.join " " ps) " " = ps := split_join tl_sp all_sp hne hp
theorem join_sp (x : Str) : Txt.join " " (Txt.split x " ") = x := join_split tl_sp all_sp x
theorem join_bar (x : Str) : Txt.join " | " (Txt.split x " | ") = x := join_split (s := 32) (S := [124, 32]) tl_bar all_bar x
theorem split_ne (x y : Str) : Txt.split x y ≠ [] := by
  unfold Txt.split
  split
  · simp
  · split
    · simp
    · unfold PySem.Builtin.Str.partsBetween
      exact fun z => by
        first
          | exact absurd z (by simp)
          | (cases h : PySem.Builtin.Str.occurrences x y 0 x.length (x.length + 1) <;> simp_all)

/-! ### what a step's numbers are -/
def names : List Str := tab.map (·.1)
theorem lookup_mem {α β : Type} [BEq α] [LawfulBEq α] : ∀ {l : List (α × β)} {k : α} {v : β}, l.lookup k = some v → (k, v) ∈ l
  | [], _, _, h => by simp at h
  | (a, b) :: r, k, v, h => by
    rw [List.lookup_cons] at h
    split at h
    · rename_i e
      have e := eq_of_beq e
      cases h
      subst e
      exact List.mem_cons_self
    · exact List.mem_cons_of_mem _ (lookup_mem h)
theorem lohi_in (l : Str) (a : Int) (ha : a ≤ 9) : -9 ≤ (lohi l a).1 ∧ (lohi l a).2 ≤ 9 := by
  unfold lohi
  split
  · constructor
    · show (-9 : Int) ≤ 0
      decide
    · show a - 1 ≤ 9
      omega
  · cases h : bnd.lookup l with
    | none => exact ⟨by decide, by decide⟩
    | some p =>
      have m := lookup_mem h
      have all : ∀ q ∈ bnd, -9 ≤ q.2.1 ∧ q.2.2 ≤ 9 := by decide +kernel
      exact all _ m
theorem within_ints : ∀ {ls : List Str} {xs : List V} {a : Int}, a ≤ 9 → within ls xs a = true → ∃ ns : List Int, xs = ns.map V.int ∧ (∀ n ∈ ns, -9 ≤ n ∧ n ≤ 9) ∧ ns.length = ls.length
  | [], [], _, _, _ => ⟨[], rfl, by simp, rfl⟩
  | l :: ls, .int n :: xs, a, ha, h => by
    unfold within at h
    simp only [Bool.and_eq_true, Bool.not_eq_true', Bool.or_eq_false_iff, decide_eq_false_iff_not] at h
    obtain ⟨⟨h1, h2⟩, h3⟩ := h
    have b := lohi_in l a ha
    have hn : -9 ≤ n ∧ n ≤ 9 := by omega
    obtain ⟨ns, e, q, hl⟩ := within_ints (ls := ls) (xs := xs) (a := n) hn.2 h3
    exact ⟨n :: ns, by rw [e]; rfl, by
      intro m hm
      rcases List.mem_cons.mp hm with z | z
      · rw [z]; exact hn
      · exact q m z, by simp [hl]⟩
  | [], _ :: _, _, _, h => by simp [within] at h
  | _ :: _, [], _, _, h => by simp [within] at h
  | _ :: _, .non :: _, _, _, h => by simp [within] at h
  | _ :: _, .bl _ :: _, _, _, h => by simp [within] at h
  | _ :: _, .str _ :: _, _, _, h => by simp [within] at h
  | _ :: _, .byt _ :: _, _, _, h => by simp [within] at h
  | _ :: _, .flt _ :: _, _, _, h => by simp [within] at h
  | _ :: _, .ref _ :: _, _, _, h => by simp [within] at h
  | _ :: _, .ty _ :: _, _, _, h => by simp [within] at h
theorem stepOk_shape {ys : List V} (h : stepOk ys = true) : ∃ (name : Str) (ns : List Int), ys = .str name :: ns.map V.int ∧ name ∈ names ∧ (∀ n ∈ ns, -9 ≤ n ∧ n ≤ 9) ∧ ns.length ≤ 4 := by
  match ys, h with
  | .str name :: rest, h =>
    have h : stepOkN name rest = true := h
    unfold stepOkN at h
    cases e : tab.lookup name with
    | none => rw [e] at h; simp at h
    | some ls =>
      rw [e] at h
      simp only [Bool.and_eq_true, decide_eq_true_eq] at h
      obtain ⟨ns, e1, e2, e3⟩ := within_ints (by decide) h.2
      have m := lookup_mem e
      have all : ∀ q ∈ tab, q.2.length ≤ 4 := by decide +kernel
      exact ⟨name, ns, by rw [e1], List.mem_map.mpr ⟨_, m, rfl⟩, e2, by rw [e3]; exact all _ m⟩
  | [], h => simp [stepOk] at h
  | .non :: _, h => simp [stepOk] at h
  | .bl _ :: _, h => simp [stepOk] at h
  | .int _ :: _, h => simp [stepOk] at h
  | .byt _ :: _, h => simp [stepOk] at h
  | .flt _ :: _, h => simp [stepOk] at h
  | .ref _ :: _, h => simp [stepOk] at h
  | .ty _ :: _, h => simp [stepOk] at h
def small : List Int := [-9, -8, -7, -6, -5, -4, -3, -2, -1, 0, 1, 2, 3, 4, 5, 6, 7, 8, 9]
theorem small_of {n : Int} (h : -9 ≤ n ∧ n ≤ 9) : n ∈ small := by
  have : n = -9 ∨ n = -8 ∨ n = -7 ∨ n = -6 ∨ n = -5 ∨ n = -4 ∨ n = -3 ∨ n = -2 ∨ n = -1 ∨ n = 0 ∨ n = 1 ∨ n = 2 ∨ n = 3 ∨ n = 4 ∨ n = 5 ∨ n = 6 ∨ n = 7 ∨ n = 8 ∨ n = 9 := by omega
  simp only [small, List.mem_cons]
  omega
theorem num_back : ∀ n ∈ small, num (partText (.int n)) = .int n ∧ 32 ∉ tl (partText (.int n)) ∧ 124 ∉ tl (partText (.int n)) ∧ (partText (.int n)).length ≤ 2 := by decide +kernel
theorem num_text : ∀ p ∈ numTab, partText (.int p.2) = p.1 := by decide +kernel
theorem names_free : ∀ x ∈ names, 32 ∉ tl x ∧ 124 ∉ tl x ∧ x.length ≤ 6 := by decide +kernel
theorem num_some {w : Str} {n : Int} (h : num w = .int n) : partText (.int n) = w := by
  unfold num at h
  cases e : numTab.lookup w with
  | none => rw [e] at h; cases h
  | some m =>
    rw [e] at h
    cases h
    exact num_text _ (lookup_mem e)
theorem readStep_text {ys : List V} (h : stepOk ys = true) : readStep (stepText ys) = ys := by
  obtain ⟨name, ns, rfl, hn, hs, _⟩ := stepOk_shape h
  have e : Txt.split (stepText (.str name :: ns.map V.int)) " " = (V.str name :: ns.map V.int).map partText := by
    refine split_sp (by simp) fun p hp => ?_
    obtain ⟨v, hv, rfl⟩ := List.mem_map.mp hp
    rcases List.mem_cons.mp hv with z | z
    · rw [z]; exact (names_free _ hn).1
    · obtain ⟨n, hn', rfl⟩ := List.mem_map.mp z
      exact (num_back n (small_of (hs n hn'))).2.1
  unfold readStep
  rw [e]
  show V.str name :: ((ns.map V.int).map partText).map num = _
  rw [List.map_map, List.map_map]
  congr 1
  refine List.map_congr_left fun n hn' => ?_
  exact (num_back n (small_of (hs n hn'))).1
theorem joinL_mem {S : List Nat} {c : Nat} : ∀ {ps : List (List Nat)}, c ∈ joinL S ps → c ∈ S ∨ ∃ p ∈ ps, c ∈ p
  | [], h => by simp [joinL] at h
  | [p], h => .inr ⟨p, by simp, h⟩
  | p :: q :: r, h => by
    have h : c ∈ p ++ (S ++ joinL S (q :: r)) := h
    rw [List.mem_append, List.mem_append] at h
    rcases h with h | h | h
    · exact .inr ⟨p, by simp, h⟩
    · exact .inl h
    · rcases joinL_mem h with z | ⟨p', h1, h2⟩
      · exact .inl z
      · exact .inr ⟨p', List.mem_cons_of_mem _ h1, h2⟩
theorem stepText_free {ys : List V} (h : stepOk ys = true) : 124 ∉ tl (stepText ys) := by
  obtain ⟨name, ns, rfl, hn, hs, _⟩ := stepOk_shape h
  unfold stepText
  rw [join_eq, tl_join, tl_sp]
  intro z
  rcases joinL_mem z with z | ⟨p, hp, hc⟩
  · simp at z
  · obtain ⟨q, hq, rfl⟩ := List.mem_map.mp hp
    obtain ⟨v, hv, rfl⟩ := List.mem_map.mp hq
    rcases List.mem_cons.mp hv with z | z
    · rw [z] at hc; exact (names_free _ hn).2.1 hc
    · obtain ⟨n, hn', rfl⟩ := List.mem_map.mp z
      exact (num_back n (small_of (hs n hn'))).2.2.1 hc
theorem join_cons_ne {S : List Nat} {p : List Nat} {r : List (List Nat)} (h : p ≠ []) : joinL S (p :: r) ≠ [] := by
  cases r with
  | nil => exact h
  | cons q r =>
    show p ++ (S ++ joinL S (q :: r)) ≠ []
    simp [h]
theorem names_ne : ∀ x ∈ names, tl x ≠ [] := by decide +kernel
theorem stepText_ne {ys : List V} (h : stepOk ys = true) : tl (stepText ys) ≠ [] := by
  obtain ⟨name, ns, rfl, hn, hs, _⟩ := stepOk_shape h
  unfold stepText
  rw [join_eq, tl_join]
  exact join_cons_ne (names_ne _ hn)
theorem chainText_ne {c : List (List V)} (hc : c ≠ []) (h : ∀ ys ∈ c, stepOk ys = true) : chainText c ≠ Str.empty := by
  cases c with
  | nil => exact absurd rfl hc
  | cons ys c =>
    intro e
    have e := congrArg tl e
    unfold chainText at e
    rw [join_eq, tl_join] at e
    exact join_cons_ne (stepText_ne (h ys (by simp))) e
theorem chainOk_steps {c : List (List V)} (h : chainOk c = true) : ∀ ys ∈ c, stepOk ys = true := by
  unfold chainOk at h
  simp only [Bool.and_eq_true, List.all_eq_true] at h
  exact h.2.1
theorem chainOk_len {c : List (List V)} (h : chainOk c = true) : c.length ≤ 4 := by
  unfold chainOk at h
  simp only [Bool.and_eq_true, decide_eq_true_eq] at h
  exact h.1
/-- parsing is the inverse of formatting -/
theorem parse_text {c : List (List V)} (h : chainOk c = true) : parse (chainText c) = c := by
  have hs := chainOk_steps h
  unfold parse parts
  by_cases hc : c = []
  · subst hc
    rfl
  · rw [if_neg (chainText_ne hc hs)]
    unfold chainText
    rw [split_bar (by simpa using hc) (fun p hp => by
      obtain ⟨ys, hy, rfl⟩ := List.mem_map.mp hp
      exact stepText_free (hs ys hy)), List.map_map]
    have : ∀ ys ∈ c, (readStep ∘ stepText) ys = ys := fun ys hy => readStep_text (hs ys hy)
    exact (List.map_congr_left this).trans (List.map_id _)
theorem text_readStep {p : Str} (h : stepOk (readStep p) = true) : stepText (readStep p) = p := by
  obtain ⟨name, ns, e, hn, hs, _⟩ := stepOk_shape h
  unfold readStep at e h ⊢
  cases es : Txt.split p " " with
  | nil => exact absurd es (split_ne _ _)
  | cons x ws =>
    rw [es] at e
    injection e with e1 e2
    show Txt.join " " (partText (.str x) :: (ws.map num).map partText) = p
    have : (ws.map num).map partText = ws := by
      rw [List.map_map]
      refine (List.map_congr_left (g := id) fun w hw => ?_).trans (List.map_id _)
      have hm : num w ∈ ns.map V.int := by rw [← e2]; exact List.mem_map.mpr ⟨w, hw, rfl⟩
      obtain ⟨n, _, en⟩ := List.mem_map.mp hm
      show partText (num w) = w
      rw [← en]
      exact num_some en.symm
    rw [this]
    show Txt.join " " (x :: ws) = p
    rw [← es]
    exact join_sp p
/-- what is parsed and is a chain has the text that was parsed -/
theorem text_parse {z : Str} (h : chainOk (parse z) = true) : chainText (parse z) = z := by
  have hs := chainOk_steps h
  unfold parse parts at hs ⊢
  by_cases hz : z = Str.empty
  · rw [if_pos hz, hz]
    rfl
  · rw [if_neg hz] at hs ⊢
    unfold chainText
    rw [List.map_map]
    have : ∀ p ∈ Txt.split z " | ", (stepText ∘ readStep) p = id p := fun p hp => text_readStep (hs _ (List.mem_map.mpr ⟨p, hp, rfl⟩))
    rw [List.map_congr_left this, List.map_id]
    exact join_bar z
end FC
set_option Elab.async false
set_option linter.all false
set_option maxRecDepth 100000
/-! What steps and chains give, number by number, in plain Lean. -/
namespace FC
open PySem L2
inductive Stp where
  | line (a b : Int)
  | turn (m r a b : Int)
  | keep (m r : Int)
  | every (k r : Int)
  | twice
  | sums
  | anew (m r : Int)
  | gaps
  | groups (k : Int)
  | count
def Stp.name : Stp → Str
  | .line _ _ => "line"
  | .turn _ _ _ _ => "turn"
  | .keep _ _ => "keep"
  | .every _ _ => "every"
  | .twice => "twice"
  | .sums => "sums"
  | .anew _ _ => "anew"
  | .gaps => "gaps"
  | .groups _ => "groups"
  | .count => "count"
def Stp.args : Stp → List Int
  | .line a b => [a, b]
  | .turn m r a b => [m, r, a, b]
  | .keep m r => [m, r]
  | .every k r => [k, r]
  | .twice => []
  | .sums => []
  | .anew m r => [m, r]
  | .gaps => []
  | .groups k => [k]
  | .count => []
def Stp.v (p : Stp) : List V := .str p.name :: p.args.map V.int
def two3 (m : Int) : Prop := m = 2 ∨ m = 3
def Stp.ok : Stp → Prop
  | .line a b => -3 ≤ a ∧ a ≤ 3 ∧ -9 ≤ b ∧ b ≤ 9
  | .turn m r a b => two3 m ∧ 0 ≤ r ∧ r < m ∧ -3 ≤ a ∧ a ≤ 3 ∧ -9 ≤ b ∧ b ≤ 9
  | .keep m r => two3 m ∧ 0 ≤ r ∧ r < m
  | .every k r => two3 k ∧ 0 ≤ r ∧ r < k
  | .twice => True
  | .sums => True
  | .anew m r => two3 m ∧ 0 ≤ r ∧ r < m
  | .gaps => True
  | .groups k => two3 k
  | .count => True
/-- the place from which anew sums, in the numbers till now -/
def lastHit (m r : Int) (ns : List Int) : Nat := ((List.range ns.length).filter fun i => decide ((ns.getD i 0 - r) % m = 0)).getLastD 0
/-- what a step gives for x behind the numbers pre -/
def Stp.out (p : Stp) (pre : List Int) (x : Int) : List Int := match p with
  | .line a b => [a * x + b]
  | .turn m r a b => [if (x - r) % m = 0 then a * x + b else x]
  | .keep m r => if (x - r) % m = 0 then [x] else []
  | .every k r => if (pre.length : Int) % k = r then [x] else []
  | .twice => [x, x]
  | .sums => [(pre ++ [x]).sum]
  | .anew m r => [((pre ++ [x]).drop (lastHit m r (pre ++ [x]))).sum]
  | .gaps => [x - pre.getLastD 0]
  | .groups k => if ((pre.length : Int) + 1) % k = 0 then [((pre ++ [x]).drop (pre.length + 1 - k.toNat)).sum] else []
  | .count => [(pre.length : Int) + 1]
/-- .. for some numbers, one by one -/
def Stp.each (p : Stp) : List Int → List Int → List (List Int)
  | _, [] => []
  | pre, x :: r => p.out pre x :: p.each (pre ++ [x]) r
def Stp.outs (p : Stp) (pre xs : List Int) : List Int := (p.each pre xs).flatten
theorem Stp.each_append (p : Stp) : ∀ (xs pre ys : List Int), p.each pre (xs ++ ys) = p.each pre xs ++ p.each (pre ++ xs) ys
  | [], pre, ys => by rw [List.nil_append, List.append_nil]; rfl
  | x :: r, pre, ys => by
    show p.out pre x :: p.each (pre ++ [x]) (r ++ ys) = p.out pre x :: (p.each (pre ++ [x]) r ++ p.each (pre ++ x :: r) ys)
    rw [Stp.each_append p r, List.append_assoc]
    rfl
theorem Stp.outs_append (p : Stp) (xs pre ys : List Int) : p.outs pre (xs ++ ys) = p.outs pre xs ++ p.outs (pre ++ xs) ys := by
  unfold Stp.outs
  rw [Stp.each_append, List.flatten_append]
theorem Stp.each_length (p : Stp) : ∀ (xs pre : List Int), (p.each pre xs).length = xs.length
  | [], _ => rfl
  | x :: r, pre => by
    show (p.each (pre ++ [x]) r).length + 1 = r.length + 1
    rw [Stp.each_length p r]
theorem Stp.each_get (p : Stp) : ∀ (xs pre : List Int) (i : Nat) (x : Int), xs[i]? = some x → (p.each pre xs)[i]? = some (p.out (pre ++ xs.take i) x)
  | [], _, i, x, h => by simp at h
  | y :: r, pre, 0, x, h => by
    have h : y = x := by simpa using h
    rw [h, List.take_zero, List.append_nil]
    rfl
  | y :: r, pre, i + 1, x, h => by
    have h : r[i]? = some x := by simpa using h
    have := Stp.each_get p r (pre ++ [y]) i x h
    show (p.each (pre ++ [y]) r)[i]? = _
    rw [this, List.take_succ_cons, List.append_assoc]
    rfl
theorem Stp.out_len (p : Stp) (pre : List Int) (x : Int) : (p.out pre x).length ≤ 2 := by
  cases p <;> simp only [Stp.out] <;> (try split) <;> simp
theorem flat_len {n : Nat} : ∀ {l : List (List Int)}, (∀ g ∈ l, g.length ≤ n) → l.flatten.length ≤ n * l.length
  | [], _ => by simp
  | g :: r, h => by
    rw [List.flatten_cons, List.length_append, List.length_cons, Nat.mul_succ]
    have h1 := h g (by simp)
    have h2 := flat_len (l := r) fun z hz => h z (List.mem_cons_of_mem _ hz)
    omega
theorem Stp.each_mem (p : Stp) : ∀ (xs pre : List Int), ∀ g ∈ p.each pre xs, g.length ≤ 2
  | [], _, g, h => by cases h
  | x :: r, pre, g, h => by
    rcases List.mem_cons.mp h with e | e
    · rw [e]
      exact p.out_len pre x
    · exact Stp.each_mem p r _ g e
theorem Stp.outs_len (p : Stp) (pre xs : List Int) : (p.outs pre xs).length ≤ 2 * xs.length := by
  have := flat_len (p.each_mem xs pre)
  rw [p.each_length] at this
  exact this
/-! ### blocks: what comes from each number of a row -/
def blkStep (p : Stp) : List Int → List (List Int) → List (List Int)
  | _, [] => []
  | pre, b :: r => p.outs pre b :: blkStep p (pre ++ b) r
def ownersOf : Nat → List (List Int) → List Int
  | _, [] => []
  | k, b :: r => List.replicate b.length (k : Int) ++ ownersOf (k + 1) r
def givenB (cs : List Stp) (row : List Int) : List (List Int) := cs.foldl (fun bs p => blkStep p [] bs) (row.map fun x => [x])
def runM (cs : List Stp) (row : List Int) : List Int := (givenB cs row).flatten
theorem blk_len (p : Stp) : ∀ (bs : List (List Int)) (pre : List Int), (blkStep p pre bs).length = bs.length
  | [], _ => rfl
  | b :: r, pre => by
    show (blkStep p (pre ++ b) r).length + 1 = r.length + 1
    rw [blk_len p r]
theorem blk_flat (p : Stp) : ∀ (bs : List (List Int)) (pre : List Int), (blkStep p pre bs).flatten = p.outs pre bs.flatten
  | [], _ => rfl
  | b :: r, pre => by
    show p.outs pre b ++ (blkStep p (pre ++ b) r).flatten = p.outs pre (b ++ r.flatten)
    rw [blk_flat p r, Stp.outs_append]
theorem blk_append (p : Stp) : ∀ (bs ds : List (List Int)) (pre : List Int), blkStep p pre (bs ++ ds) = blkStep p pre bs ++ blkStep p (pre ++ bs.flatten) ds
  | [], ds, pre => by rw [List.nil_append, List.flatten_nil, List.append_nil]; rfl
  | b :: r, ds, pre => by
    show p.outs pre b :: blkStep p (pre ++ b) (r ++ ds) = p.outs pre b :: (blkStep p (pre ++ b) r ++ blkStep p (pre ++ (b ++ r.flatten)) ds)
    rw [blk_append p r, List.append_assoc]
theorem given_len (cs : List Stp) (row : List Int) : (givenB cs row).length = row.length := by
  unfold givenB
  have : ∀ (cs : List Stp) (bs : List (List Int)), (cs.foldl (fun bs p => blkStep p [] bs) bs).length = bs.length := fun cs => by
    induction cs with
    | nil => exact fun _ => rfl
    | cons p r ih => exact fun bs => by rw [List.foldl_cons, ih, blk_len]
  rw [this, List.length_map]
theorem sing_flat (row : List Int) : (row.map fun x => [x]).flatten = row := by
  induction row with
  | nil => rfl
  | cons x r ih => rw [List.map_cons, List.flatten_cons, ih]; rfl
theorem run_nil (row : List Int) : runM [] row = row := sing_flat row
/-- the whole row, step by step -/
theorem run_steps (cs : List Stp) (row : List Int) : runM cs row = cs.foldl (fun ns p => p.outs [] ns) row := by
  have key : ∀ (cs : List Stp) (bs : List (List Int)), (cs.foldl (fun bs p => blkStep p [] bs) bs).flatten = cs.foldl (fun ns p => p.outs [] ns) bs.flatten := fun cs => by
    induction cs with
    | nil => exact fun _ => rfl
    | cons p r ih => exact fun bs => by rw [List.foldl_cons, List.foldl_cons, ih, blk_flat]
  unfold runM givenB
  rw [key, sing_flat]
theorem run_len (cs : List Stp) (row : List Int) : (runM cs row).length ≤ 2 ^ cs.length * row.length := by
  rw [run_steps]
  have key : ∀ (cs : List Stp) (ns : List Int), (cs.foldl (fun ns p => p.outs [] ns) ns).length ≤ 2 ^ cs.length * ns.length := fun cs => by
    induction cs with
    | nil => exact fun ns => by simp
    | cons p r ih =>
      intro ns
      rw [List.foldl_cons, List.length_cons]
      have h1 := ih (p.outs [] ns)
      have h2 := p.outs_len [] ns
      have h3 : 2 ^ r.length * (p.outs [] ns).length ≤ 2 ^ r.length * (2 * ns.length) := Nat.mul_le_mul (Nat.le_refl _) h2
      have h4 : 2 ^ (r.length + 1) * ns.length = 2 ^ r.length * (2 * ns.length) := by rw [Nat.pow_succ, Nat.mul_assoc]
      omega
  exact key cs row
/-- what a chain gives for x behind a row, step by step -/
def newM : List Stp → List Int → List Int → List Int
  | [], _, xs => xs
  | p :: cs, row, xs => newM cs (p.outs [] row) (p.outs row xs)
theorem given_snoc (cs : List Stp) (row : List Int) (x : Int) : givenB cs (row ++ [x]) = givenB cs row ++ [newM cs row [x]] := by
  have key : ∀ (cs : List Stp) (bs : List (List Int)) (xs : List Int), cs.foldl (fun bs p => blkStep p [] bs) (bs ++ [xs]) = cs.foldl (fun bs p => blkStep p [] bs) bs ++ [newM cs bs.flatten xs] := fun cs => by
    induction cs with
    | nil => exact fun _ _ => rfl
    | cons p r ih =>
      intro bs xs
      rw [List.foldl_cons, List.foldl_cons, blk_append]
      show r.foldl _ (blkStep p [] bs ++ [p.outs ([] ++ bs.flatten) xs]) = _
      rw [ih, blk_flat, List.nil_append]
      rfl
  unfold givenB
  rw [List.map_append, List.map_cons, List.map_nil, key, sing_flat]
theorem run_snoc (cs : List Stp) (row : List Int) (x : Int) : runM cs (row ++ [x]) = runM cs row ++ newM cs row [x] := by
  unfold runM
  rw [given_snoc, List.flatten_append]
  simp
end FC
/-! The forms of chains in plain Lean, as the program makes them. -/
namespace FC
abbrev Vec := List (Int × Int)
abbrev Bld := Vec × Int
abbrev Sta := List (Int × Int)
/-! ### vectors: dicts from ints to ints, in the order of their keys' coming -/
def vget (v : Vec) (k : Int) : Option Int := v.lookup k
def vput (v : Vec) (k x : Int) : Vec := if v.any (fun p => decide (p.1 = k)) then v.map (fun p => if p.1 = k then (p.1, x) else p) else v ++ [(k, x)]
def nz (v : Vec) : Vec := v.filter fun p => !decide (p.2 = 0)
def vdivisor (v : Vec) : Int := v.foldl (fun c p => ((Nat.gcd c.natAbs p.2.natAbs : Nat) : Int)) 0
def vdivided (v : Vec) (by_ : Int) : Vec := v.map fun p => (p.1, p.2 / by_)
def vtimes (v : Vec) (t : Int) : Vec := v.map fun p => (p.1, p.2 * t)
def vaddTo (total vec : Vec) (times : Int) : Vec := vec.foldl (fun t p => vput t p.1 ((vget t p.1).getD 0 + times * p.2)) total
def vcombined (v : Vec) (times : Int) (o : Vec) (ot : Int) : Vec :=
  let left := nz (vaddTo (vtimes v times) o ot)
  if left.isEmpty then left else vdivided left (vdivisor left)
def vshortened (parts : Vec) (scale : Int) : Bld :=
  let left := nz parts
  let by_ : Int := ((Nat.gcd (vdivisor left).natAbs scale.natAbs : Nat) : Int)
  (vdivided left by_, scale / by_)
def ilcm (a b : Int) : Int := ((Nat.lcm a.natAbs b.natAbs : Nat) : Int)
/-- small enough for what is done with it -/
def sm (n : Int) : Bool := decide (n.natAbs < 2 ^ 2000)
def vsm (v : Vec) : Bool := decide (v.length ≤ 2000) && v.all fun p => sm p.2
def guardO (b : Bool) : Option Unit := if b then some () else none
def at? {α : Type} (l : List α) (i : Int) : Option α := if 0 ≤ i then l[i.toNat]? else none
def bldC (table : List Bld) (c : Int) (p : Int × Int) : Option Int := do
  let t ← at? table p.1
  guardO (sm c && (sm t.2 && decide (0 < t.2)))
  pure (ilcm c t.2)
def bldT (table : List Bld) (common : Int) (tot : Vec) (p : Int × Int) : Option Vec := do
  let t ← at? table p.1
  guardO (vsm tot && (vsm t.1 && (sm p.2 && decide (0 < t.2 ∧ sm t.2 = true))))
  pure (vaddTo tot t.1 (p.2 * (common / t.2)))
def blended (b : Bld) (table : List Bld) : Option Bld := do
  let common ← b.1.foldlM (bldC table) 1
  guardO (sm common && (sm b.2 && decide (0 < b.2)))
  let total ← b.1.foldlM (bldT table common) []
  guardO (vsm total)
  pure (vshortened total (b.2 * common))
/-! ### spans -/
abbrev Spn := List (Int × Vec)
def spnGet (S : Spn) (k : Int) : Option Vec := S.lookup k
def spnPut (S : Spn) (k : Int) (v : Vec) : Spn := if S.any (fun p => decide (p.1 = k)) then S.map (fun p => if p.1 = k then (p.1, v) else p) else S ++ [(k, v)]
def vkeys (v : Vec) : List Int := v.map (·.1)
def clrC (S : Spn) (t : Int) (lead : Int) : Option Int := do
  let one ← spnGet S lead
  let c ← vget one lead
  guardO (sm t && (sm c && !decide (c = 0)))
  pure (ilcm t c)
def clrT (S : Spn) (tot : Vec) (lead : Int) : Option Vec := do
  let one ← spnGet S lead
  let c ← vget one lead
  let x ← vget tot lead
  guardO (vsm tot && (vsm one && (sm c && !decide (c = 0))))
  pure (vaddTo tot one (-(x.fdiv c)))
def leadsOf (S : Spn) (line : Vec) : List Int := (vkeys line).filter fun k => S.any fun p => decide (p.1 = k)
def cleared (S : Spn) (line : Vec) : Option Vec := do
  let times ← (leadsOf S line).foldlM (clrC S) 1
  guardO (sm times && vsm line)
  let total ← (leadsOf S line).foldlM (clrT S) (vtimes line times)
  guardO (vsm total)
  pure (nz total)
def minL : List Int → Int
  | [] => 0
  | x :: r => r.foldl (fun m y => if y < m then y else m) x
def tkF (new : Vec) (c lead : Int) (p : Int × Vec) : Option (Int × Vec) := match vget p.2 lead with
  | none => some p
  | some x => do
    guardO (vsm p.2)
    pure (p.1, vcombined p.2 c new (-x))
def takeIn (S : Spn) (lead : Int) (line : Vec) : Option Spn := do
  let g := vdivisor line
  guardO (decide (0 < g) && (sm g && decide (line.length ≤ 4000)))
  let new := vdivided line g
  let c ← vget new lead
  guardO (vsm new && decide (S.length ≤ 4000))
  let S' ← S.mapM (tkF new c lead)
  pure (spnPut S' lead new)
def only (k : Int) : Bld := ([(k, 1)], 1)
def place (S : Spn) (b : Bld) (name : Int) : Option (Spn × Bld) := do
  let mark := -1 - name
  let line ← cleared S (vput b.1 mark b.2)
  let leads := (vkeys line).filter fun k => decide (0 ≤ k)
  if leads.isEmpty then do
    let own ← vget line mark
    guardO (decide (0 < own))
    pure (S, vshortened ((line.filter fun p => !decide (p.1 = mark)).map fun p => (-1 - p.1, -p.2)) own)
  else do
    let S' ← takeIn S (minL leads) line
    pure (S', only name)
/-! ### chains: steps by their kinds -/
def stpCode : Stp → List Int
  | .line a b => [0, a, b]
  | .turn m r a b => [1, m, r, a, b]
  | .keep m r => [2, m, r]
  | .every k r => [3, k, r]
  | .twice => [4]
  | .sums => [5]
  | .anew m r => [6, m, r]
  | .gaps => [7]
  | .groups k => [8, k]
  | .count => [9]
theorem stpCode_inj : ∀ {p q : Stp}, stpCode p = stpCode q → p = q := by
  intro p q h
  cases p <;> cases q <;> simp_all [stpCode]
instance stpDec : DecidableEq Stp := fun p q => if h : stpCode p = stpCode q then .isTrue (stpCode_inj h) else .isFalse fun e => h (by rw [e])
def give : Stp → Int × Int → Int → List Int × (Int × Int)
  | .line a b, h, x => ([a * x + b], h)
  | .turn m r a b, h, x => if x % m ≠ r then ([x], h) else ([a * x + b], h)
  | .keep m r, h, x => if x % m ≠ r then ([], h) else ([x], h)
  | .every k r, h, x => (if h.1 = r then [x] else [], ((h.1 + 1) % k, h.2))
  | .twice, h, x => ([x, x], h)
  | .sums, h, x => ([h.2 + x], (h.1, h.2 + x))
  | .anew m r, h, x => let t := if x % m = r then 0 else h.2; ([t + x], (h.1, t + x))
  | .gaps, h, x => ([x - h.2], (h.1, x))
  | .groups k, h, x => if h.1 + 1 < k then ([], (h.1 + 1, h.2 + x)) else ([h.2 + x], (0, 0))
  | .count, h, x => ([h.2 + 1], (h.1, h.2 + 1))
def passM (p : Stp) : (Int × Int) → List Int → List Int × (Int × Int)
  | h, [] => ([], h)
  | h, x :: r => let g := give p h x; let q := passM p g.2 r; (g.1 ++ q.1, q.2)
def advM : List Stp → Sta → List Int → List Int × Sta
  | p :: ps, h :: hs, xs => let q := passM p h xs; let r := advM ps hs q.1; (r.1, q.2 :: r.2)
  | _, _, xs => (xs, [])
def adv (ps : List Stp) (s : Sta) (x : Int) : List Int × Sta := advM ps s [x]
def startM (ps : List Stp) : Sta := ps.map fun _ => (0, 0)
/-! ### the machine -/
def modAhead (p : Stp) (m : Int) : Int := match p with
  | .count => 1
  | .line a _ => m / ((Nat.gcd a.natAbs m.natAbs : Nat) : Int)
  | .turn k _ _ _ => ilcm k m
  | .keep k _ => ilcm k m
  | .anew k _ => ilcm k m
  | _ => m
/-- moduli of the steps, the modulus of the numbers -/
def moduliOf : List Stp → List Int × Int
  | [] => ([], 1)
  | p :: ps => let q := moduliOf ps; (q.2 :: q.1, modAhead p q.2)
def splitState : List Int → Sta → Int → Sta × Vec
  | m :: ms, (pl, t) :: r, i =>
    let q := splitState ms r (i + 1)
    ((pl, t % m) :: q.1, (if t / m = 0 then [] else [(i, t / m)]) ++ q.2)
  | _, _, _ => ([], [])
def split (ms : List Int) (s : Sta) : Sta × Vec := let q := splitState ms s 1; (q.1, (0, 1) :: q.2)
structure Mac where
  controls : List Sta
  spans : List Spn
  anchors : List Sta
  members : List (List Int)
  moves : List (List (List Int × Int × Bld))
def idx (l : List Sta) (c : Sta) : Option Nat := l.findIdx? (fun d => decide (d = c))
def ctlOf (M : Mac) (s : Sta) : Mac × Nat := match idx M.controls s with
  | some c => (M, c)
  | none => ({ M with controls := M.controls ++ [s], spans := M.spans ++ [[]], members := M.members ++ [[]] }, M.controls.length)
def locFin (mc : Mac × Nat) (s : Sta) (r : Spn × Bld) : Mac × Int × Bld :=
  if r.2.1.any (fun p => decide (p.1 = (mc.1.anchors.length : Int))) then
    ({ mc.1 with spans := mc.1.spans.set mc.2 r.1, anchors := mc.1.anchors ++ [s], members := mc.1.members.set mc.2 ((mc.1.members[mc.2]?).getD [] ++ [(mc.1.anchors.length : Int)]) }, (mc.2 : Int), r.2)
  else ({ mc.1 with spans := mc.1.spans.set mc.2 r.1 }, (mc.2 : Int), r.2)
def locate (ms : List Int) (M : Mac) (s : Sta) : Option (Mac × Int × Bld) := do
  let S ← (ctlOf M (split ms s).1).1.spans[(ctlOf M (split ms s).1).2]?
  let r ← place S ((split ms s).2, 1) ((ctlOf M (split ms s).1).1.anchors.length : Int)
  pure (locFin (ctlOf M (split ms s).1) s r)
end FC
set_option Elab.async false
set_option linter.all false
set_option maxRecDepth 100000
namespace FC
open PySem L2
def top (i : Nat) : Stmt := PySem.Challenge.pw_foldchains_k14_whole_known_forms.main.body.getD i (.Pass ⟨0, 0, 0, 0⟩)
abbrev sIsChain : Stmt := top 9
abbrev sCheck : Stmt := top 10
abbrev sIsWhole : Stmt := top 11
abbrev sIsStep : Stmt := top 12
abbrev sWithin : Stmt := top 13
abbrev sLimits : Stmt := top 14
-- no sFormat
-- no sParse
-- no sStepText
-- no sReadStep
abbrev sCell : Stmt := top 72
abbrev sDrawn : Stmt := top 73
abbrev sRoll : Stmt := top 74
abbrev sRounds : Stmt := top 75
-- no sTerm
-- no sTold
-- no sRest
-- no sStep
-- no sChain
abbrev sLaw : Stmt := top 76
/-- the built-in names that the program and the law use -/
structure Blt (mg : Str → Option Value) : Prop where
  isi : mg "isinstance" = none
  int : mg "int" = none
  bool : mg "bool" = none
  str : mg "str" = none
  tuple : mg "tuple" = none
  len : mg "len" = none
  all : mg "all" = none
  zip : mg "zip" = none
  range : mg "range" = none
  max : mg "max" = none
  min : mg "min" = none
  sum : mg "sum" = none
  vErr : mg "ValueError" = none
end FC
namespace FC
open PySem L2
/-- a def that may be called by its name -/
structure Cal (P : Program) (w : World) (K : PySem.W.Frag) (mg : Str → Option Value) (base : Heap) (CX : CXT) (k : Nat) (x : Str) (ps : List Str) (sp : Sp) : Prop where
  ex : ∃ f fd, FnOk P w K mg base CX k f fd ps sp ∧ mg x = some (.ref f) ∧ PySem.W.keepIn K (.ref f) = true ∧ Binds K fd ps []
def tCal (sp : Sp) (E : XK) (t : TA) : TE := fun σ H Q => t σ H fun vs H1 => sp vs H1 Q E
section
variable {X : Cx} {CX : CXT} {k : Nat} {x : Str} {ps : List Str} {sp : Sp} {E : XK} {e : Expr} {es : List Expr} {t : TA} {p pos : Pos}
theorem pe_cal (C : Cal X.prog X.w X.K X.mg X.base CX k x ps sp) (hr : Room k X.A) (hx : Passes CX X E) (ha : PA X (e :: es) t) (hg : Gl X x := by rfl) (hdb : (x == ("__debug__" : Str)) = false := by decide)
    (he : starEach (e :: es) X.env = (false, eval e X.env) :: starEach es X.env := by rfl) (hpl : (backTo pos (starEach es X.env)).any (·.1) = false := by rfl) :
    PE X (.Call (.Name x p) (e :: es) [] pos) (tCal sp E t) := by
  obtain ⟨f, fd, G, m, kp, b⟩ := C.ex
  have h := pe_call (E := E) (pos := pos) (p := p) G hr hg m kp b .nil hx ha hdb he hpl
  refine ⟨fun pins s σ H Q I q => h.run pins s σ H Q I ?_⟩
  have mono := ha
  refine (show tCall sp [] E t σ H Q from ?_)
  unfold tCall
  unfold tCal at q
  simpa using q
end
end FC
namespace FC
open PySem L2
/-! ### the tables of the module as they stand behind the top -/
structure LetT (K : PySem.W.Frag) (w : World) (d : Addr) : Prop where
  kd : ∃ es n, KDict K w d es n
  at_ : ∀ z, ∃ r, PySem.W.nsIn K d z = some r ∧ match tab.lookup z with
    | none => r = none
    | some ls => ∃ a, r = some (.ref a) ∧ ∀ H, SqT K H a (ls.map V.str)
structure BndT (K : PySem.W.Frag) (w : World) (d : Addr) : Prop where
  kd : ∃ es n, KDict K w d es n
  at_ : ∀ p ∈ bnd, ∃ a, PySem.W.nsIn K d p.1 = some (some (.ref a)) ∧ ∀ H, SqT K H a [.int p.2.1, .int p.2.2]
structure NumT (K : PySem.W.Frag) (w : World) (d : Addr) : Prop where
  kd : ∃ es n, KDict K w d es n
  at_ : ∀ z, ∃ r, PySem.W.nsIn K d z = some r ∧ match numTab.lookup z with
    | none => r = none
    | some i => ∃ t, r = some (.int i t)
structure LimT (K : PySem.W.Frag) (a : Addr) : Prop where
  at_ : ∃ rs : List Addr, (∀ H, SqT K H a (rs.map V.ref)) ∧ rs.length = lims.length ∧ ∀ (i : Nat) (p : Nat × List Str) (r : Addr), lims[i]? = some p → rs[i]? = some r →
    ∃ c, (∀ H, SqT K H r [.int (p.1 : Nat), .ref c]) ∧ ∀ H, SqT K H c (p.2.map V.str)
end FC
namespace FC
open PySem L2
/-- an own exception class of the module, told of its written part -/
structure ExcT (K : PySem.W.Frag) (mg : Str → Option Value) (x : Str) (C : Addr) : Prop where
  gC : mg x = some (.ref C)
  q : PySem.W.excIn K C [.type "ValueError", .type "Exception", .type "BaseException", .type "object"] "ValueError.__new__" = true
  kC : PySem.W.keepIn K (.ref C) = true
  bP : PySem.W.subIn K (.ref C) (.type "BaseException") = some true
  tP : PySem.W.typeIn K (.ref C) = some (.type "type")
/-- a def that may let out an exception whose context is None -/
theorem okN {P : Program} {w : World} {K : PySem.W.Frag} {mg : Str → Option Value} {base : Heap} {x : Str} {st : Stmt} {f : Addr} {fd : FuncData} {N ps : List Str} {k : Nat} {sp : Sp} (F : Fun K x x st f fd) (S : FnScope N ps (defScope st))
    (len : ∀ vs H Q E, sp vs H Q E → vs.length = ps.length)
    (body : ∀ (c : Value) (A : Around) (outer : List Env) (s : Shared) (H : Hp) (vs : List V) (Q : VK) (E : XK), Room k (A.deeper (PyProof.Rows.envOfC x (defScope st) s.heap.objs.size f c)) → sp vs H Q E →
      ∃ t, PSs (cxOf (L2N.CX P w) P w K mg base N x (defScope st) f c A outer s H E) (defBody st) t ∧ t { nx := fun _ H' => Q .non H', rt := Q } (start N vs) H) :
    FnOk P w K mg base (L2N.CX P w) (k + 1) f fd ps sp := by
  obtain ⟨oc, od, kV, doc, pm, an, c, ct, osl, rfl, lk, hcd⟩ := F.ex
  exact fn_of lk hcd S len fun A outer s H vs Q E hr h => body c A outer s H vs Q E hr h
/-- none of its exceptions is known here: the call lets none out -/
theorem passN {X : Cx} : Passes (L2N.CX X.prog X.w) X E0 := fun _ _ _ _ _ _ _ h => by
  obtain ⟨_, _, _, _, _, _, _, _, _, _, _, _, z⟩ := h
  exact z.elim
end FC
namespace FC
open PySem L2
/-- an expression told in other words -/
theorem pe_as {X : Cx} {e : Expr} {t t' : TE} (h : PE X e t) (i : ∀ σ H Q, t' σ H Q → t σ H Q) : PE X e t' := ⟨fun pins s σ H Q I q => h.run pins s σ H Q I (i σ H Q q)⟩
end FC
set_option Elab.async false
set_option linter.all false
set_option maxRecDepth 100000
set_option maxHeartbeats 4000000
/-! l.extend(t) by a tuple; a call of a name that holds one of several defs. -/
namespace FC
open PySem PySem.Spec PyProof.Rows L2
theorem list_extend_tup (l : Addr) (items : Array Value) (n : Nat) (b : Addr) (items2 : Array Value) (n2 : Nat) (dd : Option Addr) (sl : Array (Option Value)) (hs0 : ¬(!items.isEmpty && Builtin.List.listTooLong (items.size + items2.size)) = true) (hs1 : items.size ≤ sizeLine) (hs2 : items.size + items2.size ≤ sizeLine + 1) :
    Meets (Builtin.«list.extend» ⟨[.ref l, .ref b], []⟩) (fun _ R s => s.heap.get? l = some { cls := .type "list", dict := none, data := .seq items n, slots := #[] } ∧ s.heap.get? b = some { cls := .type "tuple", dict := dd, data := .seq items2 n2, slots := sl } ∧ R (.ok (.ret Value.none)) { s with heap := s.heap.update l (Obj.mapSeq fun x => x ++ items2), toks := s.toks }) :=
  .of_wp fun prog w A R s h => by
    obtain ⟨hp, g, d, tk, os⟩ := s; obtain ⟨hl, hb, h⟩ := h; have f1 := AutoSeq1.idx_int; have f2 := AutoSeq1.sub_tuple_tuple; have f3 := AutoSeq1.sub_list_list; have f4 := AutoSeq1.sub_tuple_list; have f5 := AutoSeq1.sub_list_tuple
    have hz' : (items ++ items2).size ≤ sizeLine + 1 := by rw [Array.size_append]; exact hs2
    wp_walk using (wpAny_updateSeq hl rfl (hz := hs1) (_hz' := hz')), wpAny_loadPart' hl, wpAny_loadPart' hb; exact ⟨_, rfl, h⟩
def rExtT (K : PySem.W.Frag) : V → List V → Hp → VK → Prop := fun x vs H Q => ∃ l b xs zs, x = .ref l ∧ vs = [.ref b] ∧ H l = some (.lst xs) ∧ SqT K H b zs ∧ xs.length + zs.length ≤ sizeLine ∧ Q .non (upd H l (.lst (xs ++ zs)))
section
variable {X : Cx}
theorem mt_extT : MtM X "list.extend" (rExtT X.K) := by
  intro pins s σ H x vs v us Q I rx rv h
  obtain ⟨l, b, xs, zs, rfl, rfl, hH, hB, hz, q⟩ := h
  cases rx
  obtain ⟨u, rfl, ru⟩ := rv.one
  cases ru
  obtain ⟨z, its, n, r, hl, e⟩ := I.lstM hH
  obtain ⟨its2, r2, ⟨⟨cls, dd, data, sl⟩, ho, hc, n2, hd⟩, hs⟩ := I.tuple hB
  simp only at hc hd
  subst hc hd
  have hl2 := r2.length
  have hsz : its.toArray.size + its2.toArray.size ≤ sizeLine := by rw [List.size_toArray, List.size_toArray]; omega
  have hlong : ¬ (!its.toArray.isEmpty && Builtin.List.listTooLong (its.toArray.size + its2.toArray.size)) = true := by
    rw [notLongL hsz, Bool.and_false]
    exact Bool.false_ne_true
  refine call_meets F.slot_list_extend ⟨_, e, rfl⟩ F.entry_list_extend (F.args_list_extend_2 _ _)
    (list_extend_tup l its.toArray n b its2.toArray n2 dd sl hlong (by rw [List.size_toArray]; omega) (by omega)) ⟨e, ho, ?_⟩
  refine ⟨.non, _, I.lset (its' := its ++ its2) hH e (by simp) (r.append r2) ?_, rfl, q⟩
  rw [List.length_append]
  omega
/-- the i-th slot holds some def, whose promise is told where it is called -/
def tCallH (P : Program) (w : World) (K : PySem.W.Frag) (mg : Str → Option Value) (base : Heap) (k i : Nat) (t : TA) : TE := fun σ H Q => ∃ f sp, σ[i]? = some (some (.ref f)) ∧ Held P w K mg base k f sp ∧ t σ H fun vs H1 => sp vs H1 Q (fun _ _ _ => False)
variable {k i : Nat} {x : Str} {p pos : Pos} {e : Expr} {es : List Expr} {t : TA}
theorem pe_callHd (hr : Room k X.A) (hN : X.N[i]? = some x) (hv : Vis X.env.scope x) (ha : PA X (e :: es) t)
    (hdb : (x == ("__debug__" : Str)) = false := by decide) (hcd : (x == ("__classdict__" : Str)) = false := by decide)
    (he : starEach (e :: es) X.env = (false, eval e X.env) :: starEach es X.env := by rfl) (hpl : (backTo pos (starEach es X.env)).any (·.1) = false := by rfl) : PE X (.Call (.Name x p) (e :: es) [] pos) (tCallH X.prog X.w X.K X.mg X.base k i t) := by
  refine ⟨fun pins s σ H Q I h => ?_⟩
  obtain ⟨f, sp, hs, ⟨fd, ps, F, hk, hb⟩, ht⟩ := h
  refine (pe_callL (i := i) (f := f) (sp := sp) (dvs := []) (E := fun _ _ _ => False) F hr hN hv hk hb .nil (fun _ _ _ _ _ _ _ z => z.elim) ha hdb hcd he hpl).run pins s σ H Q I ⟨hs, ?_⟩
  have e0 : (fun (vs : List V) (H1 : Hp) => sp (vs ++ []) H1 Q (fun _ _ _ => False)) = fun vs H1 => sp vs H1 Q (fun _ _ _ => False) := by
    funext vs H1
    rw [List.append_nil]
  show t σ H (fun vs H1 => sp (vs ++ []) H1 Q (fun _ _ _ => False))
  rw [e0]
  exact ht
end
theorem Cal.held {P : Program} {w : World} {K : PySem.W.Frag} {mg : Str → Option Value} {base : Heap} {k : Nat} {x : Str} {ps : List Str} {sp : Sp} {f : Addr} (C : ∃ fd, FnOk P w K mg base (fun _ _ _ _ _ _ => False) k f fd ps sp ∧ PySem.W.keepIn K (.ref f) = true ∧ Binds K fd ps []) : Held P w K mg base k f sp := by
  obtain ⟨fd, h⟩ := C
  exact ⟨fd, ps, h⟩
end FC
set_option Elab.async false
set_option linter.all false
set_option maxRecDepth 100000
set_option maxHeartbeats 4000000
/-! tuple * int, by 0 and by 1 too. -/
namespace FC
open PySem PySem.Spec PyProof.Rows L2
theorem tuple_mul1 (l : Addr) (items : Array Value) (n : Nat) (dd : Option Addr) (sl : Array (Option Value)) (u : Tok) :
    Meets (Builtin.«tuple.__mul__» ⟨[.ref l, .int 1 u], []⟩) (fun _ R s => s.heap.get? l = some { cls := .type "tuple", dict := dd, data := .seq items n, slots := sl } ∧ R (.ok (.ret (Value.ref l))) s) :=
  .of_wp fun prog w A R s h => by
    obtain ⟨hp, g, d, tk, os⟩ := s
    obtain ⟨hl, h⟩ := h
    have f1 := AutoSeq1.idx_int
    have c0 : (decide ((1 : Int) < -(2 ^ 63)) || decide ((1 : Int) ≥ 2 ^ 63)) = false := by decide
    have c1 : (items.isEmpty || (1 : Int) == 1) = true := by rw [show ((1 : Int) == 1) = true from rfl, Bool.or_true]
    wp_walk using wpAny_loadPart' hl
    repeat (first
      | (refine wpAny_ite_false (decide_eq_false (by rw [c0]; exact Bool.false_ne_true)) ?_; wp_walk using wpAny_loadPart' hl)
      | (refine wpAny_ite_true (decide_eq_true c1) ?_; wp_walk using wpAny_loadPart' hl))
    exact ⟨_, rfl, h⟩
theorem tuple_mul0 (l : Addr) (items : Array Value) (n : Nat) (dd : Option Addr) (sl : Array (Option Value)) (u : Tok) (hne : items.isEmpty = false) :
    Meets (Builtin.«tuple.__mul__» ⟨[.ref l, .int 0 u], []⟩) (fun _ R s => s.heap.get? l = some { cls := .type "tuple", dict := dd, data := .seq items n, slots := sl } ∧
      R (.ok (.ret (Value.ref s.heap.objs.size))) { s with heap := s.heap.push { cls := Value.type "tuple", data := Data.seq #[] }, toks := s.toks }) :=
  .of_wp fun prog w A R s h => by
    obtain ⟨hp, g, d, tk, os⟩ := s
    obtain ⟨hl, h⟩ := h
    have f1 := AutoSeq1.idx_int
    have c0 : (decide ((0 : Int) < -(2 ^ 63)) || decide ((0 : Int) ≥ 2 ^ 63)) = false := by decide
    have c1 : (items.isEmpty || (0 : Int) == 1) = false := by rw [hne]; rfl
    have c2 : (decide ((0 : Int) ≤ 0) || items.isEmpty) = true := by rw [hne]; rfl
    have hsz : ((#[] : Array Value)).size ≤ sizeLine := Nat.zero_le _
    wp_walk using wpAny_loadPart' hl
    repeat (first
      | (refine wpAny_ite_false (decide_eq_false (by rw [c0]; exact Bool.false_ne_true)) ?_; wp_walk using wpAny_loadPart' hl)
      | (refine wpAny_ite_false (decide_eq_false (by rw [c1]; exact Bool.false_ne_true)) ?_; wp_walk using wpAny_loadPart' hl)
      | (refine wpAny_ite_true (decide_eq_true c2) ?_; wp_walk using wpAny_loadPart' hl)
      | (refine wpAny_ite_false (decide_eq_false (Nat.not_lt.mpr hsz)) ?_; wp_walk using wpAny_loadPart' hl))
    exact ⟨_, rfl, h⟩
/-- t * k -/
def rRepA (K : PySem.W.Frag) : R2 := fun x y H Q => ∃ l k xs, x = .ref l ∧ y = .int k ∧ SqT K H l xs ∧ xs ≠ [] ∧ 0 ≤ k ∧ k ≤ 1000 ∧ xs.length ≤ 1000 ∧ (k = 1 → Q (.ref l) H) ∧ (k ≠ 1 → ∀ p, H p = none → Q (.ref p) (upd H p (.tup (List.replicate k.toNat xs).flatten)))
section
variable {X : Cx}
theorem op_repA : OpR X (binaryOp .Mult) (rRepA X.K) := by
  intro pins s σ H x y v u Q I rx ry h
  obtain ⟨l, k, xs, rfl, rfl, hT, hne, h1, h2, hz, q1, q2⟩ := h
  by_cases hk : 2 ≤ k
  · exact op_repT pins s σ H _ _ v u Q I rx ry ⟨l, k, xs, rfl, rfl, hT, hne, hk, h2, hz, q2 (by omega)⟩
  cases rx
  obtain ⟨t, rfl⟩ := ry
  obtain ⟨its, r, ⟨⟨cls, dd, data, sl⟩, ho, hc, n, hd⟩, hs⟩ := I.tuple hT
  simp only at hc hd
  subst hc hd
  have hle : its.length = xs.length := r.length.symm
  have hn : its ≠ [] := fun e => hne (by
    rw [e] at hle
    exact List.eq_nil_of_length_eq_zero hle.symm)
  have hi : its.toArray.isEmpty = false := by
    cases its with
    | nil => exact absurd rfl hn
    | cons a b => rfl
  by_cases hk1 : k = 1
  · subst hk1
    refine wpAny_binaryOp_repeat_ref (T := "tuple") (U := "int") (by decide) ⟨_, ho, rfl⟩ (fun s' => typeIs_int s' 1 t) noFill_tuple_mul F.fills_int_mul F.slot_int_rmul repeat_tuple F.slot_int_index.lookup
      (call_meets F.slot_int_rmul (typeIs_int s 1 t) F.entry_int_rmul (F.args_int_rmul_2 _ _) (int_rmul_tuple 1 t l its.toArray n dd sl)
        ⟨ho, rfl, ⟨_, ho, rfl⟩, call_meets F.slot_tuple_mul ⟨_, ho, rfl⟩ F.entry_tuple_mul (F.args_tuple_mul_2 _ _) (tuple_mul1 l its.toArray n dd sl t) ⟨ho, ?_⟩⟩)
    exact ⟨.ref l, H, I, rfl, q1 rfl⟩
  · obtain rfl : k = 0 := by omega
    refine wpAny_binaryOp_repeat_ref (T := "tuple") (U := "int") (by decide) ⟨_, ho, rfl⟩ (fun s' => typeIs_int s' 0 t) noFill_tuple_mul F.fills_int_mul F.slot_int_rmul repeat_tuple F.slot_int_index.lookup
      (call_meets F.slot_int_rmul (typeIs_int s 0 t) F.entry_int_rmul (F.args_int_rmul_2 _ _) (int_rmul_tuple 0 t l its.toArray n dd sl)
        ⟨ho, rfl, ⟨_, ho, rfl⟩, call_meets F.slot_tuple_mul ⟨_, ho, rfl⟩ F.entry_tuple_mul (F.args_tuple_mul_2 _ _) (tuple_mul0 l its.toArray n dd sl t hi) ⟨ho, ?_⟩⟩)
    refine ⟨.ref s.heap.objs.size, _, I.laid (t' := s.toks) (o := .tup []) (fun b ob q => Heap.get?_push_of_some _ q) (Nat.le_refl _) ?_, rfl, q2 (by decide) _ (I.hok.fresh (Nat.le_refl _))⟩
    exact ⟨Nat.zero_le _, _, .nil, IsTup.new _ _⟩
end
end FC
namespace FC
open PySem L2
abbrev sOnly : Stmt := top 16
abbrev sNz : Stmt := top 17
abbrev sDivisor : Stmt := top 18
abbrev sDivided : Stmt := top 19
abbrev sAddTo : Stmt := top 20
abbrev sCombined : Stmt := top 21
abbrev sShortened : Stmt := top 22
abbrev sBlended : Stmt := top 23
abbrev sSpan : Stmt := top 24
abbrev sModulusOf : Stmt := top 26
abbrev sFreeAnchors : Stmt := top 27
abbrev sMovesTold : Stmt := top 28
abbrev sIsEven : Stmt := top 29
abbrev sGoesEvenly : Stmt := top 30
abbrev sGroups : Stmt := top 32
abbrev sCountLine : Stmt := top 33
abbrev sAlike : Stmt := top 34
abbrev sFirstsFound : Stmt := top 35
abbrev sGvLine : Stmt := top 38
abbrev sGvTurn : Stmt := top 39
abbrev sGvKeep : Stmt := top 40
abbrev sGvEvery : Stmt := top 41
abbrev sGvTwice : Stmt := top 42
abbrev sGvSums : Stmt := top 43
abbrev sGvAnew : Stmt := top 44
abbrev sGvGaps : Stmt := top 45
abbrev sGvGroups : Stmt := top 46
abbrev sGvCount : Stmt := top 47
abbrev sStartP : Stmt := top 49
abbrev sAdvance : Stmt := top 50
abbrev sPassT : Stmt := top 51
abbrev sModuliOf : Stmt := top 53
abbrev sModAhead : Stmt := top 54
abbrev sSplitState : Stmt := top 55
abbrev sMachine : Stmt := top 56
abbrev sToldRests : Stmt := top 58
abbrev sSpendTests : Stmt := top 59
abbrev sFirstTests : Stmt := top 60
abbrev sMovesBy : Stmt := top 61
abbrev sTestAhead : Stmt := top 62
abbrev sRefutes : Stmt := top 63
abbrev sWorthOf : Stmt := top 64
abbrev sUntied : Stmt := top 65
abbrev sForm : Stmt := top 67
abbrev sTable : Stmt := top 68
abbrev sWithFractions : Stmt := top 69
abbrev sFraction : Stmt := top 70
end FC
set_option Elab.async false
set_option linter.all false
set_option maxRecDepth 100000
/-! What a step holds between two numbers, in plain Lean. -/
namespace FC
open PySem L2
/-- what a step holds behind some numbers: a place and a total -/
def Stp.held (p : Stp) (pre : List Int) : Int × Int := match p with
  | .every k _ => ((pre.length : Int) % k, 0)
  | .sums => (0, pre.sum)
  | .anew m r => (0, (pre.drop (lastHit m r pre)).sum)
  | .gaps => (0, pre.getLastD 0)
  | .groups k => ((pre.length : Int) % k, (pre.drop (pre.length - pre.length % k.toNat)).sum)
  | .count => (0, (pre.length : Int))
  | _ => (0, 0)
theorem held_nil (p : Stp) : p.held [] = (0, 0) := by
  cases p <;> simp [Stp.held]
theorem rem_iff {x m r : Int} (hm : two3 m) (h0 : 0 ≤ r) (h1 : r < m) : (x - r) % m = 0 ↔ x % m = r := by
  unfold two3 at hm
  rcases hm with rfl | rfl <;> omega
theorem sum_snoc (l : List Int) (x : Int) : (l ++ [x]).sum = l.sum + x := by
  rw [List.sum_append]
  simp
theorem every_next {n k : Int} (hk : two3 k) : (n % k + 1) % k = (n + 1) % k := by
  unfold two3 at hk
  rcases hk with rfl | rfl <;> omega
theorem lastHit_le (m r : Int) (ns : List Int) : lastHit m r ns ≤ ns.length := by
  unfold lastHit
  cases h : ((List.range ns.length).filter fun i => decide ((ns.getD i 0 - r) % m = 0)) with
  | nil => simp
  | cons a t =>
    have hm : (a :: t).getLastD 0 ∈ a :: t := by
      have e : (a :: t).getLastD 0 = (a :: t).getLast (by simp) := by simp [List.getLastD_eq_getLast?, List.getLast?_eq_some_getLast]
      rw [e]
      exact List.getLast_mem _
    rw [← h] at hm
    have := List.mem_range.mp (List.mem_filter.mp hm).1
    rw [h] at this
    omega
theorem lastHit_snoc (m r : Int) (pre : List Int) (x : Int) : lastHit m r (pre ++ [x]) = if (x - r) % m = 0 then pre.length else lastHit m r pre := by
  unfold lastHit
  rw [List.length_append, List.length_singleton, List.range_succ, List.filter_append]
  have e1 : ((List.range pre.length).filter fun i => decide (((pre ++ [x]).getD i 0 - r) % m = 0)) = ((List.range pre.length).filter fun i => decide ((pre.getD i 0 - r) % m = 0)) := by
    refine List.filter_congr fun i hi => ?_
    have hi := List.mem_range.mp hi
    have : (pre ++ [x]).getD i 0 = pre.getD i 0 := by
      rw [List.getD_eq_getElem?_getD, List.getD_eq_getElem?_getD, List.getElem?_append_left hi]
    rw [this]
  have e2 : (pre ++ [x]).getD pre.length 0 = x := by
    rw [List.getD_eq_getElem?_getD, List.getElem?_append_right (Nat.le_refl _)]
    simp
  rw [e1]
  by_cases h : (x - r) % m = 0
  · rw [if_pos h]
    have : ([pre.length].filter fun i => decide (((pre ++ [x]).getD i 0 - r) % m = 0)) = [pre.length] := by
      rw [List.filter_cons, e2, decide_eq_true h]
      rfl
    rw [this]
    simp
  · rw [if_neg h]
    have : ([pre.length].filter fun i => decide (((pre ++ [x]).getD i 0 - r) % m = 0)) = [] := by
      rw [List.filter_cons, e2, decide_eq_false h]
      rfl
    rw [this, List.append_nil]
theorem anew_snoc (m r : Int) (pre : List Int) (x : Int) : ((pre ++ [x]).drop (lastHit m r (pre ++ [x]))).sum = (if (x - r) % m = 0 then 0 else (pre.drop (lastHit m r pre)).sum) + x := by
  rw [lastHit_snoc]
  by_cases h : (x - r) % m = 0
  · rw [if_pos h, if_pos h, List.drop_left]
    simp
  · rw [if_neg h, if_neg h, List.drop_append_of_le_length (lastHit_le m r pre), sum_snoc]
theorem groups_low {k : Int} (hk : two3 k) {pre : List Int} {x : Int} (h : (pre.length : Int) % k + 1 < k) : ((pre.length : Int) + 1) % k ≠ 0 ∧ ((pre.length : Int) + 1) % k = (pre.length : Int) % k + 1 ∧
    ((pre ++ [x]).drop ((pre ++ [x]).length - (pre ++ [x]).length % k.toNat)).sum = (pre.drop (pre.length - pre.length % k.toNat)).sum + x := by
  rw [List.length_append, List.length_singleton]
  have e : (pre.length + 1) - (pre.length + 1) % k.toNat = pre.length - pre.length % k.toNat := by
    unfold two3 at hk
    rcases hk with rfl | rfl
    · show (pre.length + 1) - (pre.length + 1) % 2 = pre.length - pre.length % 2
      omega
    · show (pre.length + 1) - (pre.length + 1) % 3 = pre.length - pre.length % 3
      omega
  rw [e, List.drop_append_of_le_length (Nat.sub_le _ _), sum_snoc]
  refine ⟨?_, ?_, rfl⟩ <;> (unfold two3 at hk; rcases hk with rfl | rfl <;> omega)
theorem groups_high {k : Int} (hk : two3 k) {pre : List Int} {x : Int} (h : ¬ (pre.length : Int) % k + 1 < k) : ((pre.length : Int) + 1) % k = 0 ∧
    ((pre ++ [x]).drop (pre.length + 1 - k.toNat)).sum = (pre.drop (pre.length - pre.length % k.toNat)).sum + x ∧ ((pre ++ [x]).drop ((pre ++ [x]).length - (pre ++ [x]).length % k.toNat)).sum = 0 := by
  rw [List.length_append, List.length_singleton]
  have e : pre.length + 1 - k.toNat = pre.length - pre.length % k.toNat ∧ (pre.length + 1) % k.toNat = 0 := by
    unfold two3 at hk
    rcases hk with rfl | rfl
    · show (pre.length + 1) - 2 = pre.length - pre.length % 2 ∧ (pre.length + 1) % 2 = 0
      omega
    · show (pre.length + 1) - 3 = pre.length - pre.length % 3 ∧ (pre.length + 1) % 3 = 0
      omega
  rw [e.1, e.2, List.drop_append_of_le_length (Nat.sub_le _ _), sum_snoc, Nat.sub_zero]
  have e2 : (pre ++ [x]).drop (pre.length + 1) = [] := List.drop_eq_nil_of_le (by rw [List.length_append, List.length_singleton]; exact Nat.le_refl _)
  rw [e2]
  refine ⟨?_, rfl, rfl⟩
  unfold two3 at hk
  rcases hk with rfl | rfl <;> omega
theorem gaps_snoc (pre : List Int) (x : Int) : (pre ++ [x]).getLastD 0 = x := by simp
/-- some numbers through a step -/
theorem outs_cons (p : Stp) (pre : List Int) (x : Int) (r : List Int) : p.outs pre (x :: r) = p.out pre x ++ p.outs (pre ++ [x]) r := by
  unfold Stp.outs
  rw [Stp.each, List.flatten_cons]
theorem outs_snoc (p : Stp) (pre xs : List Int) (x : Int) : p.outs pre (xs ++ [x]) = p.outs pre xs ++ p.out (pre ++ xs) x := by
  rw [Stp.outs_append, outs_cons]
  unfold Stp.outs Stp.each
  simp
theorem newM_append (p : Stp) : ∀ (cs : List Stp) (row xs : List Int), newM (cs ++ [p]) row xs = p.outs (runM cs row) (newM cs row xs) := fun cs => by
  have key : ∀ (cs : List Stp) (row xs : List Int), newM (cs ++ [p]) row xs = p.outs (cs.foldl (fun ns p => p.outs [] ns) row) (newM cs row xs) := fun cs => by
    induction cs with
    | nil => exact fun row xs => rfl
    | cons q r ih =>
      intro row xs
      show newM (r ++ [p]) (q.outs [] row) (q.outs row xs) = _
      rw [ih]
      rfl
  intro row xs
  rw [run_steps]
  exact key cs row xs
theorem newM_len : ∀ (cs : List Stp) (row xs : List Int), (newM cs row xs).length ≤ 2 ^ cs.length * xs.length
  | [], _, xs => by simp [newM]
  | p :: r, row, xs => by
    have h1 := newM_len r (p.outs [] row) (p.outs row xs)
    have h2 := p.outs_len row xs
    show (newM r (p.outs [] row) (p.outs row xs)).length ≤ 2 ^ (r.length + 1) * xs.length
    have h3 : 2 ^ r.length * (p.outs row xs).length ≤ 2 ^ r.length * (2 * xs.length) := Nat.mul_le_mul (Nat.le_refl _) h2
    rw [Nat.pow_succ, Nat.mul_assoc]
    omega
theorem run_take_snoc (p : Stp) (cs : List Stp) (row : List Int) : runM (cs ++ [p]) row = p.outs [] (runM cs row) := by
  rw [run_steps, run_steps, List.foldl_append]
  rfl
end FC
set_option Elab.async false
set_option linter.all false
set_option maxRecDepth 100000
set_option maxHeartbeats 4000000
namespace FC
open PySem L2
/-! ### kinds of values, by isinstance -/
def kinds : List String := ["NoneType", "bool", "int", "str", "float", "list", "tuple", "dict", "bytes", "set"]
def Nice (K : PySem.W.Frag) (H : Hp) (x : V) : Prop := ∃ T, T ∈ kinds ∧ TyX K H x (.type T)
def isW : V → Bool
  | .int _ => true
  | _ => false
def isS : V → Bool
  | .str _ => true
  | _ => false
theorem kit_int : ∀ T ∈ kinds, kitB T "int" = some (T == "int" || T == "bool") := by decide +kernel
theorem kit_bool : ∀ T ∈ kinds, kitB T "bool" = some (T == "bool") := by decide +kernel
theorem kit_str : ∀ T ∈ kinds, kitB T "str" = some (T == "str") := by decide +kernel
theorem kit_tuple : ∀ T ∈ kinds, kitB T "tuple" = some (T == "tuple") := by decide +kernel
theorem tyX_isW {K : PySem.W.Frag} {H : Hp} {x : V} {u : Value} (t : TyX K H x u) : isW x = (u == .type "int") := by
  cases t with
  | base b => cases b <;> first | rfl | decide +kernel
  | _ => first | rfl | decide +kernel
theorem tyX_isS {K : PySem.W.Frag} {H : Hp} {x : V} {u : Value} (t : TyX K H x u) : isS x = (u == .type "str") := by
  cases t with
  | base b => cases b <;> first | rfl | decide +kernel
  | _ => first | rfl | decide +kernel
theorem ty_beq' (a b : String) : (Value.type a == Value.type b) = (a == b) := by
  have := ty_beq a b
  rw [this]
  by_cases h : a = b
  · subst h; simp
  · rw [decide_eq_false h]; exact (beq_eq_false_iff_ne.mpr h).symm
theorem isW_of {K : PySem.W.Frag} {H : Hp} {x : V} {T : String} (t : TyX K H x (.type T)) : isW x = (T == "int") := by rw [tyX_isW t, ty_beq']
theorem isS_of {K : PySem.W.Frag} {H : Hp} {x : V} {T : String} (t : TyX K H x (.type T)) : isS x = (T == "str") := by rw [tyX_isS t, ty_beq']
theorem tyX_same {K : PySem.W.Frag} {H H' : Hp} {x : V} {u : Value} (e : Same H H') (t : TyX K H x u) : TyX K H' x u := by
  cases t with
  | base b => cases b with
    | non => exact .base .non
    | bl x => exact .base (.bl x)
    | int x => exact .base (.int x)
    | str x => exact .base (.str x)
    | flt x => exact .base (.flt x)
    | lst h => exact .base (.lst (e _ _ h))
    | frz h => exact .base (.frz (e _ _ h))
    | tup h => exact .base (.tup (e _ _ h))
    | dK h => exact .base (.dK (e _ _ h))
    | dT h => exact .base (.dT (e _ _ h))
    | ins h a b c d f => exact .base (.ins (e _ _ h) a b c d f)
  | byt b => exact .byt b
  | set h => exact .set (e _ _ h)
  | kList h c => exact .kList h c
  | kTuple h c => exact .kTuple h c
  | kDict h c => exact .kDict h c
  | fTuple h => exact .fTuple (e _ _ h)
  | fDict h => exact .fDict (e _ _ h)
theorem Nice.same {K : PySem.W.Frag} {H H' : Hp} {x : V} (e : Same H H') (n : Nice K H x) : Nice K H' x := by
  obtain ⟨T, h, t⟩ := n
  exact ⟨T, h, tyX_same e t⟩
theorem Nice.non {K : PySem.W.Frag} {H : Hp} : Nice K H .non := ⟨_, by decide, .base .non⟩
theorem Nice.bl {K : PySem.W.Frag} {H : Hp} (b : Bool) : Nice K H (.bl b) := ⟨_, by decide, .base (.bl b)⟩
theorem Nice.int {K : PySem.W.Frag} {H : Hp} (i : Int) : Nice K H (.int i) := ⟨_, by decide, .base (.int i)⟩
theorem Nice.str {K : PySem.W.Frag} {H : Hp} (z : Str) : Nice K H (.str z) := ⟨_, by decide, .base (.str z)⟩
theorem ty_tup {K : PySem.W.Frag} {H : Hp} {a : Addr} {xs : List V} (h : SqT K H a xs) : TyX K H (.ref a) (.type "tuple") := by
  rcases h with (h | ⟨o, h⟩) | ⟨o, its, n, h, c, _⟩
  · exact .base (.tup h)
  · exact .fTuple h
  · exact .kTuple h c
theorem Nice.tup {K : PySem.W.Frag} {H : Hp} {a : Addr} {xs : List V} (h : SqT K H a xs) : Nice K H (.ref a) := ⟨_, by decide, ty_tup h⟩
theorem sqt_same {K : PySem.W.Frag} {H H' : Hp} {a : Addr} {xs : List V} (e : Same H H') (h : SqT K H a xs) : SqT K H' a xs := by
  rcases h with (h | ⟨o, h⟩) | h
  · exact .inl (.inl (e _ _ h))
  · exact .inl (.inr ⟨o, e _ _ h⟩)
  · exact .inr h
theorem same_upd {H H' : Hp} {p : Addr} {o : HO} (e : Same H H') (h : H' p = none) : Same H (L2.upd H' p o) := fun b u q => by
  have q' := e b u q
  rw [upd_ne (ne_of_none q' h)]
  exact q'
def spIsWhole (K : PySem.W.Frag) : Sp := fun vs H Q _ => ∃ x, vs = [x] ∧ Nice K H x ∧ Q (.bl (isW x)) H
section
variable {P : Program} {w : World} {K : PySem.W.Frag} {mg : Str → Option Value} {base : Heap}
theorem scIsWhole : FnScope ["value"] ["value"] (defScope sIsWhole) := ⟨rfl, rfl, rfl, by decide +kernel, rfl, by decide +kernel, by decide +kernel⟩
theorem ok_isWhole {f : Addr} {fd : FuncData} (F : Fun K "is_whole" "is_whole" sIsWhole f fd) (T : Blt mg) : FnOk P w K mg base CX0 1 f fd ["value"] (spIsWhole K) := by
  refine F.ok scIsWhole (fun vs H Q E h => ?_) (fun cdv A outer s H vs Q E hr h => ?_)
  · obtain ⟨x, rfl, _⟩ := h
    rfl
  · obtain ⟨x, rfl, ⟨t, ht, hx⟩, k⟩ := h
    refine ⟨_, pss_one (ps_ret (pe_and (pe_callB call_isi (by rfl) T.isi (by decide +kernel) (pa_cons (pv 0) (pa_cons (pe_bltn (v := .ty "int") (by rfl) T.int (by decide +kernel) rfl) pa_nil)))
      (pe_one (pe_not (pe_callB call_isi (by rfl) T.isi (by decide +kernel) (pa_cons (pv 0) (pa_cons (pe_bltn (v := .ty "bool") (by rfl) T.bool (by decide +kernel) rfl) pa_nil))))))), ?_⟩
    refine ⟨_, rfl, _, _, _, _, _, rfl, .ty _, hx, kit_ty (kit_int t ht), _, rfl, ?_⟩
    have e := isW_of hx
    rw [e] at k
    refine ite2 (fun h => ?_) (fun h => ?_)
    · refine ⟨_, rfl, _, _, _, _, _, rfl, .ty _, hx, kit_ty (kit_bool t ht), _, rfl, ?_⟩
      have : (!(t == "bool")) = (t == "int") := by
        revert h
        exact (by decide : ∀ t ∈ kinds, (t == "int" || t == "bool") = true → (!(t == "bool")) = (t == "int")) t ht
      rw [this]
      exact k
    · have : (t == "int") = false := by
        revert h
        exact (by decide : ∀ t ∈ kinds, ¬ (t == "int" || t == "bool") = true → (t == "int") = false) t ht
      rw [this] at k
      exact k
end
end FC
set_option Elab.async false
set_option linter.all false
set_option maxRecDepth 100000
set_option maxHeartbeats 4000000
namespace FC
open PySem L2
def letters5 : List Str := ["a", "b", "m", "k", "r"]
def spWithin (K : PySem.W.Frag) : Sp := fun vs H Q _ => ∃ a b ls xs, vs = [.ref a, .ref b] ∧ SqT K H a (ls.map V.str) ∧ SqT K H b xs ∧ (∀ l ∈ ls, l ∈ letters5) ∧ (∀ x ∈ xs, Nice K H x) ∧
  ∀ H', Same H H' → Q (.bl (decide (ls.length = xs.length) && within ls xs 0)) H'
theorem bnd_of {l : Str} (h : l ∈ letters5) (hr : l ≠ "r") : ∃ p ∈ bnd, p.1 = l ∧ ∀ a, lohi l a = p.2 := by
  have all : ∀ l ∈ letters5, l ≠ "r" → ∃ p ∈ bnd, p.1 = l ∧ bnd.lookup l = some p.2 := by decide +kernel
  obtain ⟨p, h1, h2, h3⟩ := all l h hr
  refine ⟨p, h1, h2, fun a => ?_⟩
  unfold lohi
  rw [if_neg hr, h3]
  rfl
theorem within_cons {l : Str} {ls : List Str} {n : Int} {xs : List V} {a lo hi : Int} (el : lohi l a = (lo, hi)) : within (l :: ls) (.int n :: xs) a = (!(decide (n < lo) || decide (hi < n)) && within ls xs n) := by
  show (!(decide (n < (lohi l a).1) || decide ((lohi l a).2 < n)) && within ls xs n) = _
  rw [el]
theorem within_lt {l : Str} {ls : List Str} {n : Int} {xs : List V} {a lo hi : Int} (el : lohi l a = (lo, hi)) (h : decide (n < lo) = true) : within (l :: ls) (.int n :: xs) a = false := by
  rw [within_cons el, h]
  rfl
theorem within_gt {l : Str} {ls : List Str} {n : Int} {xs : List V} {a lo hi : Int} (el : lohi l a = (lo, hi)) (h : decide (hi < n) = true) : within (l :: ls) (.int n :: xs) a = false := by
  rw [within_cons el, h, Bool.or_true]
  rfl
theorem within_ok {l : Str} {ls : List Str} {n : Int} {xs : List V} {a lo hi : Int} (el : lohi l a = (lo, hi)) (h1 : ¬ decide (n < lo) = true) (h2 : ¬ decide (hi < n) = true) : within (l :: ls) (.int n :: xs) a = within ls xs n := by
  rw [within_cons el, eq_false_of_ne_true h1, eq_false_of_ne_true h2]
  rfl
section
variable {P : Program} {w : World} {K : PySem.W.Frag} {mg : Str → Option Value} {base : Heap}
theorem scWithin : FnScope ["letters", "numbers", "ahead", "letter", "number", "low", "high"] ["letters", "numbers"] (defScope sWithin) := ⟨rfl, rfl, rfl, by decide +kernel, rfl, by decide +kernel, by decide +kernel⟩
theorem ok_within {f dB : Addr} {fd : FuncData} (F : Fun K "are_within" "are_within" sWithin f fd) (T : Blt mg) (C : Cal P w K mg base CX0 1 "is_whole" ["value"] (spIsWhole K)) (mB : mg "BOUNDS" = some (.ref dB)) (B : BndT K w dB) :
    FnOk P w K mg base CX0 2 f fd ["letters", "numbers"] (spWithin K) := by
  refine F.ok scWithin (fun vs H Q E h => ?_) (fun cdv A outer s H vs Q E hr h => ?_)
  · obtain ⟨a, b, ls, xs, rfl, _⟩ := h
    rfl
  · obtain ⟨a, b, ls, xs, rfl, hls, hxs, hin, hpl, k⟩ := h
    have nd := scWithin.nd
    refine ⟨_, pss_cons (ps_if (pt_cmpR op_ne (pe_callB call_len (by rfl) T.len PySem.boot_len (pa_cons (pv 0) pa_nil)) (pe_callB call_len (by rfl) T.len PySem.boot_len (pa_cons (pv 1) pa_nil)) (nomark _)) (pss_one (ps_ret pe_bl)) pss_nil)
      (pss_cons (ps_set (i := 2) nd rfl (Or.inl rfl) pe_int)
      (pss_cons (ps_for PassesOwn.never rfl (RZ.pi_zipA (by rfl) T.zip (pa_cons (pv 0) (pa_cons (pv 1) pa_nil))) (pg_tup rfl (pgs_cons (pg_name (i := 3) nd rfl (Or.inl rfl)) (pgs_cons (pg_name (i := 4) nd rfl (Or.inl rfl)) pgs_nil)))
        (pss_cons (ps_if (pt_not (pt_val (pe_cal C hr pass0 (pa_cons (pv 4) pa_nil)))) (pss_one (ps_ret pe_bl)) pss_nil)
        (pss_cons (ps_asg (pe_ifExp (pt_cmpR op_eq (pv 3) pe_str (nomark _)) (pe_tup (pa_cons pe_int (pa_cons (pe_op op_sub (pv 2) pe_int) pa_nil))) (pe_ix ix_kdict (pe_glob (v := .ref dB) rfl mB rfl) (pv 3) (fun _ _ => rfl))) (pg_tup rfl (pgs_cons (pg_name (i := 5) nd rfl (Or.inl rfl)) (pgs_cons (pg_name (i := 6) nd rfl (Or.inl rfl)) pgs_nil))))
        (pss_cons (ps_if (PW.pt (pw_or (pt_cmp (pc_lt (pv 4) (pv 5))) (pw_or1 (pt_cmp (pc_gt (pv 4) (pv 6)))))) (pss_one (ps_ret pe_bl)) pss_nil)
        (pss_one (ps_set (i := 2) nd rfl (Or.inl rfl) (pv 4)))))))
      (pss_one (ps_ret pe_bl)))), ?_⟩
    -- the lengths
    refine ⟨_, rfl, _, (ls.map V.str).length, rfl, .inr ⟨_, hls, rfl⟩, _, rfl, _, xs.length, rfl, .inr ⟨_, hxs, rfl⟩, rfl, _, rfl, ?_⟩
    by_cases hl : ¬ ls.length = xs.length
    · have e : decide (V.int ((ls.map V.str).length : Nat) = V.int (xs.length : Nat)) = false := decide_eq_false fun z => hl (by injection z with z; rw [List.length_map] at z; omega)
      show if (!decide (V.int ((ls.map V.str).length : Nat) = V.int (xs.length : Nat))) = true then _ else _
      rw [e]
      refine iteT ?_
      have := k H (Same.refl H)
      rw [decide_eq_false hl] at this
      exact this
    replace hl : ls.length = xs.length := Decidable.not_not.mp hl
    have e : decide (V.int ((ls.map V.str).length : Nat) = V.int (xs.length : Nat)) = true := decide_eq_true (by rw [List.length_map, hl])
    show if (!decide (V.int ((ls.map V.str).length : Nat) = V.int (xs.length : Nat))) = true then _ else _
    rw [e]
    refine iteF ?_
    have k' : ∀ H', Same H H' → Q (.bl (within ls xs 0)) H' := fun H' z => by
      have := k H' z
      rw [decide_eq_true hl] at this
      exact this
    clear k e
    -- ahead = 0
    refine ⟨_, rfl, _, rfl, a, b, ls.map V.str, xs, rfl, .inr ⟨hls, hxs, RZ.for_zipT (K := K) (xs := ls.map V.str) (ys := xs) (by rw [List.length_map, hl])
      (fun i σ H2 => ∃ (ahead : Int) (v3 v4 v5 v6 : Option V), σ = [some (.ref a), some (.ref b), some (.int ahead), v3, v4, v5, v6] ∧ Same H H2 ∧ within (ls.drop i) (xs.drop i) ahead = within ls xs 0)
      ⟨0, none, none, none, none, rfl, Same.refl H, rfl⟩ (fun i σ H2 ⟨_, _, _, _, _, _, s2, _⟩ => ⟨sqt_same s2 hls, sqt_same s2 hxs⟩) ?_ ?_⟩⟩
    · rintro i x y T σ H2 hx hy ⟨ahead, v3, v4, v5, v6, rfl, s2, hw⟩ hT
      have hi : i < ls.length := by
        have := (List.getElem?_eq_some_iff.mp hx).1
        rwa [List.length_map] at this
      have hi2 : i < xs.length := (List.getElem?_eq_some_iff.mp hy).1
      obtain ⟨l, hl', rfl⟩ : ∃ l, ls[i]? = some l ∧ x = V.str l := by
        rw [List.getElem?_map] at hx
        cases e : ls[i]? with
        | none => rw [e] at hx; cases hx
        | some l => rw [e] at hx; exact ⟨l, rfl, (Option.some.inj hx).symm⟩
      have hlm : l ∈ ls := List.mem_of_getElem? hl'
      have hym : y ∈ xs := List.mem_of_getElem? hy
      have ed : ls.drop i = l :: ls.drop (i + 1) := by
        rw [List.drop_eq_getElem_cons hi]
        congr 1
        rw [List.getElem?_eq_getElem hi] at hl'
        exact Option.some.inj hl'
      have ed2 : xs.drop i = y :: xs.drop (i + 1) := by
        rw [List.drop_eq_getElem_cons hi2]
        congr 1
        rw [List.getElem?_eq_getElem hi2] at hy
        exact Option.some.inj hy
      rw [ed, ed2] at hw
      have s3 : Same H (upd H2 T (.tup [V.str l, y])) := same_upd s2 hT
      refine ⟨T, [V.str l, y], rfl, SqT.of upd_same, rfl, _, _, rfl, _, _, rfl, rfl, ?_⟩
      -- is_whole(number)
      refine ⟨_, rfl, y, rfl, (hpl y hym).same s3, _, rfl, ?_⟩
      by_cases hW : isW y = false
      · rw [hW]
        refine iteT ?_
        have k0 : within (l :: ls.drop (i + 1)) (y :: xs.drop (i + 1)) ahead = false := by
          cases y <;> first | rfl | cases hW
        have := k' _ s3
        rw [← hw, k0] at this
        exact this
      · obtain ⟨n, rfl⟩ : ∃ n, y = V.int n := by
          cases y <;> first | exact ⟨_, rfl⟩ | exact absurd rfl hW
        refine iteF ?_
        -- low, high
        refine ⟨_, rfl, rfl, _, rfl, ?_⟩
        refine ite2 (fun er => ?_) (fun er => ?_)
        · have er : l = "r" := by
            have := of_decide_eq_true er
            injection this
          have el : lohi l ahead = (0, ahead - 1) := by unfold lohi; rw [if_pos er]
          refine ⟨_, rfl, _, _, rfl, rfl, (by show 2 ≤ sizeLine; decide), fun p np => ⟨p, _, rfl, SqT.of upd_same, rfl, _, _, rfl, _, _, rfl, rfl, ?_⟩⟩
          have s4 := same_upd (o := .tup [.int 0, .int (ahead - 1)]) s3 np
          refine ⟨_, rfl, _, rfl, _, _, rfl, rfl, _, rfl, ?_⟩
          refine ite2 (fun h1 => ?_) (fun h1 => ?_)
          · refine iteT ?_
            have := k' _ s4
            rw [← hw, within_lt el h1] at this
            exact this
          refine ⟨_, rfl, _, rfl, _, _, rfl, rfl, _, rfl, ?_⟩
          refine ite2 (fun h2 => ?_) (fun h2 => ?_)
          · have := k' _ s4
            rw [← hw, within_gt el h2] at this
            exact this
          -- ahead = number
          exact ⟨_, rfl, n, _, _, _, _, rfl, s4, by rw [← hw, within_ok el h1 h2]⟩
        · have er : l ≠ "r" := fun z => er (decide_eq_true (by rw [z]))
          obtain ⟨q, hq, hq1, hq2⟩ := bnd_of (hin l hlm) er
          obtain ⟨es, nn, kd⟩ := B.kd
          obtain ⟨c, hc1, hc2⟩ := B.at_ q hq
          rw [hq1] at hc1
          have el : lohi l ahead = (q.2.1, q.2.2) := hq2 ahead
          refine ⟨_, rfl, dB, l, .ref c, rfl, rfl, ⟨es, nn, _, kd.at_, kd.lit, hc1, rfl⟩, ⟨c, _, rfl, hc2 _, rfl, _, _, rfl, _, _, rfl, rfl, ?_⟩⟩
          have s4 := s3
          refine ⟨_, rfl, _, rfl, _, _, rfl, rfl, _, rfl, ?_⟩
          refine ite2 (fun h1 => ?_) (fun h1 => ?_)
          · refine iteT ?_
            have := k' _ s4
            rw [← hw, within_lt el h1] at this
            exact this
          refine ⟨_, rfl, _, rfl, _, _, rfl, rfl, _, rfl, ?_⟩
          refine ite2 (fun h2 => ?_) (fun h2 => ?_)
          · have := k' _ s4
            rw [← hw, within_gt el h2] at this
            exact this
          -- ahead = number
          exact ⟨_, rfl, n, _, _, _, _, rfl, s4, by rw [← hw, within_ok el h1 h2]⟩
    · rintro σ H2 ⟨ahead, v3, v4, v5, v6, rfl, s2, hw⟩
      have := k' _ s2
      rw [← hw, List.length_map, List.drop_of_length_le (Nat.le_refl _), hl, List.drop_of_length_le (Nat.le_refl _)] at this
      exact this
end
end FC
set_option Elab.async false
set_option linter.all false
set_option maxRecDepth 100000
set_option maxHeartbeats 4000000
/-! The ten defs that take a number to a step. -/
namespace FC
open PySem L2
/-- what is held, at a -/
def HeldAt (K : PySem.W.Frag) (H : Hp) (a : Addr) (h : Int × Int) : Prop := SqT K H a [.int h.1, .int h.2]
theorem HeldAt.same {K : PySem.W.Frag} {H H' : Hp} {a : Addr} {h : Int × Int} (e : HeldAt K H a h) (s : Same H H') : HeldAt K H' a h := sqt_same s e
/-- a step's kind takes the number x behind the numbers pre -/
def spGive (K : PySem.W.Frag) (name : Str) : Sp := fun vs H Q _ => ∃ (b h : Addr) (x : Int) (p : Stp) (pre : List Int), vs = [.ref b, .ref h, .int x] ∧ p.name = name ∧ p.ok ∧ SqT K H b p.v ∧ HeldAt K H h (p.held pre) ∧
  ∀ (t g h' : Addr) H', Same H H' → SqT K H' t [.ref g, .ref h'] → SqT K H' g ((p.out pre x).map V.int) → HeldAt K H' h' (p.held (pre ++ [x])) → Q (.ref t) H'
theorem sqt_new {K : PySem.W.Frag} {H : Hp} {a : Addr} {xs : List V} : SqT K (upd H a (.tup xs)) a xs := SqT.of upd_same
theorem neF {x y : V} {A B : Prop} (h : x = y) (hb : B) : if (!decide (x = y)) = true then A else B := by
  rw [decide_eq_true h]
  exact iteF hb
theorem neT {x y : V} {A B : Prop} (h : x ≠ y) (ha : A) : if (!decide (x = y)) = true then A else B := by
  rw [decide_eq_false h]
  exact iteT ha
theorem eqT {x y : V} {A B : Prop} (h : x = y) (ha : A) : if decide (x = y) = true then A else B := by
  rw [decide_eq_true h]
  exact iteT ha
theorem eqF {x y : V} {A B : Prop} (h : x ≠ y) (hb : B) : if decide (x = y) = true then A else B := by
  rw [decide_eq_false h]
  exact iteF hb
abbrev ND : List Str := ["step", "held", "number"]
abbrev ND2 : List Str := ["step", "held", "number", "place", "total"]
/-- the end of a giver: the given tuple and what is held are put into a tuple -/
theorem give_end {K : PySem.W.Frag} {H H1 : Hp} {Q : VK} {g h' : Addr} {p : Stp} {pre : List Int} {x : Int} (s : Same H H1) (hg : SqT K H1 g ((p.out pre x).map V.int)) (hh : HeldAt K H1 h' (p.held (pre ++ [x])))
    (k : ∀ (t g h' : Addr) H', Same H H' → SqT K H' t [.ref g, .ref h'] → SqT K H' g ((p.out pre x).map V.int) → HeldAt K H' h' (p.held (pre ++ [x])) → Q (.ref t) H') :
    2 ≤ sizeLine ∧ ∀ t, H1 t = none → Q (.ref t) (upd H1 t (.tup [.ref g, .ref h'])) :=
  ⟨by decide, fun t nt => k t g h' _ (same_upd s nt) sqt_new (sqt_same (same_upd (Same.refl H1) nt) hg) (hh.same (same_upd (Same.refl H1) nt))⟩
section
variable {P : Program} {w : World} {K : PySem.W.Frag} {mg : Str → Option Value} {base : Heap}
theorem lenG {K : PySem.W.Frag} {n : Str} {vs : List V} {H : Hp} {Q : VK} {E : XK} {ps : List Str} (h3 : ps.length = 3) (h : spGive K n vs H Q E) : vs.length = ps.length := by
  obtain ⟨b, h, x, p, pre, rfl, _⟩ := h
  exact h3.symm
theorem scGvLine : FnScope ND ND (defScope sGvLine) := ⟨rfl, rfl, rfl, by decide +kernel, rfl, by decide +kernel, by decide +kernel⟩
theorem ok_gvLine {f : Addr} {fd : FuncData} (F : Fun K "give_line" "give_line" sGvLine f fd) : FnOk P w K mg base CX0 1 f fd ND (spGive K "line") := by
  refine F.ok scGvLine (fun vs H Q E h => lenG rfl h) (fun cdv A outer s H vs Q E hr h => ?_)
  obtain ⟨b, h, x, p, pre, rfl, hn, hok, hb, hh, k⟩ := h
  cases p <;> first | exact absurd hn (by decide +kernel) | (dsimp only [Stp.name] at hn; exact absurd hn (by decide +kernel)) | skip
  rename_i a1 b1
  obtain ⟨a2, a3, _⟩ := hok
  refine ⟨_, pss_one (ps_ret (pe_tup (pa_cons (pe_tup (pa_cons (pe_op op_add (pe_op op_mul (pe_ix (r := rIxT K) ix_tup (pv 0) pe_int (fun _ _ => rfl)) (pv 2)) (pe_ix (r := rIxT K) ix_tup (pv 0) pe_int (fun _ _ => rfl))) pa_nil)) (pa_cons (pv 1) pa_nil)))), ?_⟩
  refine ⟨_, rfl, b, _, 1, .int a1, rfl, rfl, hb, atI_nat (j := 1) rfl, _, rfl, _, _, rfl, rfl, .inl ⟨by omega, by omega⟩, _, rfl, b, _, 2, .int b1, rfl, rfl, hb, atI_nat (j := 2) rfl, _, _, rfl, rfl, (by show 1 ≤ sizeLine; decide), fun g ng => ⟨_, rfl, ?_⟩⟩
  have s1 := same_upd (o := .tup [V.int (a1 * x + b1)]) (Same.refl H) ng
  exact give_end (p := .line a1 b1) (pre := pre) s1 sqt_new (hh.same s1) k
theorem scGvTurn : FnScope ND ND (defScope sGvTurn) := ⟨rfl, rfl, rfl, by decide +kernel, rfl, by decide +kernel, by decide +kernel⟩
theorem ok_gvTurn {f : Addr} {fd : FuncData} (F : Fun K "give_turn" "give_turn" sGvTurn f fd) : FnOk P w K mg base CX0 1 f fd ND (spGive K "turn") := by
  refine F.ok scGvTurn (fun vs H Q E h => lenG rfl h) (fun cdv A outer s H vs Q E hr h => ?_)
  obtain ⟨b, h, x, p, pre, rfl, hn, hok, hb, hh, k⟩ := h
  cases p <;> first | exact absurd hn (by decide +kernel) | (dsimp only [Stp.name] at hn; exact absurd hn (by decide +kernel)) | skip
  rename_i m r a1 b1
  obtain ⟨hm, r0, r1, a2, a3, _⟩ := hok
  refine ⟨_, pss_cons (ps_if (pt_cmpR op_ne (pe_op op_mod (pv 2) (pe_ix (r := rIxT K) ix_tup (pv 0) pe_int (fun _ _ => rfl))) (pe_ix (r := rIxT K) ix_tup (pv 0) pe_int (fun _ _ => rfl)) (nomark _)) (pss_one (ps_ret (pe_tup (pa_cons (pe_tup (pa_cons (pv 2) pa_nil)) (pa_cons (pv 1) pa_nil))))) pss_nil)
    (pss_one (ps_ret (pe_tup (pa_cons (pe_tup (pa_cons (pe_op op_add (pe_op op_mul (pe_ix (r := rIxT K) ix_tup (pv 0) pe_int (fun _ _ => rfl)) (pv 2)) (pe_ix (r := rIxT K) ix_tup (pv 0) pe_int (fun _ _ => rfl))) pa_nil)) (pa_cons (pv 1) pa_nil))))), ?_⟩
  have m0 : 0 < m := by unfold two3 at hm; omega
  refine ⟨_, rfl, _, rfl, b, _, 1, .int m, rfl, rfl, hb, atI_nat (j := 1) rfl, _, _, rfl, rfl, m0, _, rfl, b, _, 2, .int r, rfl, rfl, hb, atI_nat (j := 2) rfl, rfl, _, rfl, ?_⟩
  have hi := rem_iff (x := x) hm r0 r1
  by_cases hc : x % m = r
  · refine neF (congrArg V.int hc) ?_
    refine ⟨_, rfl, b, _, 3, .int a1, rfl, rfl, hb, atI_nat (j := 3) rfl, _, rfl, _, _, rfl, rfl, .inl ⟨by omega, by omega⟩, _, rfl, b, _, 4, .int b1, rfl, rfl, hb, atI_nat (j := 4) rfl, _, _, rfl, rfl, (by show 1 ≤ sizeLine; decide), fun g ng => ⟨_, rfl, ?_⟩⟩
    have s1 := same_upd (o := .tup [V.int (a1 * x + b1)]) (Same.refl H) ng
    exact give_end (p := .turn m r a1 b1) (pre := pre) s1 (by
      have := sqt_new (K := K) (H := H) (a := g) (xs := [V.int (a1 * x + b1)])
      dsimp only [Stp.out]
      rw [if_pos (hi.mpr hc)]
      exact this) (hh.same s1) k
  · refine neT (fun z => hc (by injection z)) ?_
    refine ⟨_, rfl, (by show 1 ≤ sizeLine; decide), fun g ng => ⟨_, rfl, ?_⟩⟩
    have s1 := same_upd (o := .tup [V.int x]) (Same.refl H) ng
    exact give_end (p := .turn m r a1 b1) (pre := pre) s1 (by
      have := sqt_new (K := K) (H := H) (a := g) (xs := [V.int x])
      dsimp only [Stp.out]
      rw [if_neg (fun z => hc (hi.mp z))]
      exact this) (hh.same s1) k
theorem scGvKeep : FnScope ND ND (defScope sGvKeep) := ⟨rfl, rfl, rfl, by decide +kernel, rfl, by decide +kernel, by decide +kernel⟩
theorem ok_gvKeep {f : Addr} {fd : FuncData} (F : Fun K "give_keep" "give_keep" sGvKeep f fd) : FnOk P w K mg base CX0 1 f fd ND (spGive K "keep") := by
  refine F.ok scGvKeep (fun vs H Q E h => lenG rfl h) (fun cdv A outer s H vs Q E hr h => ?_)
  obtain ⟨b, h, x, p, pre, rfl, hn, hok, hb, hh, k⟩ := h
  cases p <;> first | exact absurd hn (by decide +kernel) | (dsimp only [Stp.name] at hn; exact absurd hn (by decide +kernel)) | skip
  have nd := scGvKeep.nd
  rename_i m r
  obtain ⟨hm, r0, r1⟩ := hok
  refine ⟨_, pss_cons (ps_if (pt_cmpR op_ne (pe_op op_mod (pv 2) (pe_ix (r := rIxT K) ix_tup (pv 0) pe_int (fun _ _ => rfl))) (pe_ix (r := rIxT K) ix_tup (pv 0) pe_int (fun _ _ => rfl)) (nomark _)) (pss_one (ps_ret (pe_tup (pa_cons (pe_tup pa_nil) (pa_cons (pv 1) pa_nil))))) pss_nil)
    (pss_one (ps_ret (pe_tup (pa_cons (pe_tup (pa_cons (pv 2) pa_nil)) (pa_cons (pv 1) pa_nil))))), ?_⟩
  have m0 : 0 < m := by unfold two3 at hm; omega
  refine ⟨_, rfl, _, rfl, b, _, 1, .int m, rfl, rfl, hb, atI_nat (j := 1) rfl, _, _, rfl, rfl, m0, _, rfl, b, _, 2, .int r, rfl, rfl, hb, atI_nat (j := 2) rfl, rfl, _, rfl, ?_⟩
  have hi := rem_iff (x := x) hm r0 r1
  by_cases hc : x % m = r
  · refine neF (congrArg V.int hc) ?_
    refine ⟨_, rfl, (by show 1 ≤ sizeLine; decide), fun g ng => ⟨_, rfl, ?_⟩⟩
    have s1 := same_upd (o := .tup [V.int x]) (Same.refl H) ng
    exact give_end (p := .keep m r) (pre := pre) s1 (by
      have := sqt_new (K := K) (H := H) (a := g) (xs := [V.int x])
      dsimp only [Stp.out]
      rw [if_pos (hi.mpr hc)]
      exact this) (hh.same s1) k
  · refine neT (fun z => hc (by injection z)) ?_
    refine ⟨(by show 0 ≤ sizeLine; decide), fun g ng => ⟨_, rfl, ?_⟩⟩
    have s1 := same_upd (o := .tup []) (Same.refl H) ng
    exact give_end (p := .keep m r) (pre := pre) s1 (by
      have := sqt_new (K := K) (H := H) (a := g) (xs := [])
      dsimp only [Stp.out]
      rw [if_neg (fun z => hc (hi.mp z))]
      exact this) (hh.same s1) k
theorem scGvEvery : FnScope ["step", "held", "number", "place", "total", "given"] ND (defScope sGvEvery) := ⟨rfl, rfl, rfl, by decide +kernel, rfl, by decide +kernel, by decide +kernel⟩
theorem ok_gvEvery {f : Addr} {fd : FuncData} (F : Fun K "give_every" "give_every" sGvEvery f fd) : FnOk P w K mg base CX0 1 f fd ND (spGive K "every") := by
  refine F.ok scGvEvery (fun vs H Q E h => lenG rfl h) (fun cdv A outer s H vs Q E hr h => ?_)
  obtain ⟨b, h, x, p, pre, rfl, hn, hok, hb, hh, k⟩ := h
  cases p <;> first | exact absurd hn (by decide +kernel) | (dsimp only [Stp.name] at hn; exact absurd hn (by decide +kernel)) | skip
  have nd := scGvEvery.nd
  rename_i m r
  obtain ⟨hm, r0, r1⟩ := hok
  have m0 : 0 < m := by unfold two3 at hm; omega
  refine ⟨_, pss_cons (ps_asg (pv 1) (pg_tup rfl (pgs_cons (pg_name (i := 3) nd rfl (Or.inl rfl)) (pgs_cons (pg_name (i := 4) nd rfl (Or.inl rfl)) pgs_nil))))
    (pss_cons (ps_set (i := 5) nd rfl (Or.inl rfl) (pe_ifExp (pt_cmpR op_eq (pv 3) (pe_ix (r := rIxT K) ix_tup (pv 0) pe_int (fun _ _ => rfl)) (nomark _)) (pe_tup (pa_cons (pv 2) pa_nil)) (pe_tup pa_nil)))
    (pss_one (ps_ret (pe_tup (pa_cons (pv 5) (pa_cons (pe_tup (pa_cons (pe_op op_mod (pe_op op_add (pv 3) pe_int) (pe_ix (r := rIxT K) ix_tup (pv 0) pe_int (fun _ _ => rfl))) (pa_cons (pv 4) pa_nil))) pa_nil)))))), ?_⟩
  refine ⟨_, rfl, h, _, rfl, hh, rfl, _, _, rfl, _, _, rfl, rfl, ?_⟩
  refine ⟨_, rfl, _, rfl, b, _, 2, .int r, rfl, rfl, hb, atI_nat (j := 2) rfl, rfl, _, rfl, ?_⟩
  have fin : ∀ (g : Addr) (H1 : Hp), Same H H1 → SqT K H1 g (((Stp.every m r).out pre x).map V.int) → ∀ q, H1 q = none → 2 ≤ sizeLine ∧ ∀ t, upd H1 q (.tup [.int (((pre.length : Int) % m + 1) % m), .int 0]) t = none → Q (.ref t) (upd (upd H1 q (.tup [.int (((pre.length : Int) % m + 1) % m), .int 0])) t (.tup [.ref g, .ref q])) := fun g H1 s1 hg q nq =>
    give_end (p := .every m r) (pre := pre) (same_upd s1 nq) (sqt_same (same_upd (Same.refl H1) nq) hg) (by
      have := sqt_new (K := K) (H := H1) (a := q) (xs := [.int (((pre.length : Int) % m + 1) % m), .int 0])
      dsimp only [HeldAt, Stp.held]
      rw [List.length_append, List.length_singleton, Int.natCast_add, Int.natCast_one]
      rw [every_next hm] at this ⊢
      exact this) k
  by_cases hc : (pre.length : Int) % m = r
  · refine eqT (congrArg V.int hc) ?_
    refine ⟨_, rfl, (by show 1 ≤ sizeLine; decide), fun g ng => ?_⟩
    have s1 := same_upd (o := .tup [V.int x]) (Same.refl H) ng
    refine ⟨_, rfl, _, rfl, _, _, rfl, rfl, _, rfl, b, _, 1, .int m, rfl, rfl, sqt_same s1 hb, atI_nat (j := 1) rfl, _, _, rfl, rfl, m0, _, rfl, (by show 2 ≤ sizeLine; decide), fun q nq => fin g _ s1 (by
      have := sqt_new (K := K) (H := H) (a := g) (xs := [V.int x])
      dsimp only [Stp.out]
      rw [if_pos hc]
      exact this) q nq⟩
  · refine eqF (fun z => hc (by injection z)) ?_
    refine ⟨(by show 0 ≤ sizeLine; decide), fun g ng => ?_⟩
    have s1 := same_upd (o := .tup []) (Same.refl H) ng
    refine ⟨_, rfl, _, rfl, _, _, rfl, rfl, _, rfl, b, _, 1, .int m, rfl, rfl, sqt_same s1 hb, atI_nat (j := 1) rfl, _, _, rfl, rfl, m0, _, rfl, (by show 2 ≤ sizeLine; decide), fun q nq => fin g _ s1 (by
      have := sqt_new (K := K) (H := H) (a := g) (xs := [])
      dsimp only [Stp.out]
      rw [if_neg hc]
      exact this) q nq⟩
theorem scGvTwice : FnScope ND ND (defScope sGvTwice) := ⟨rfl, rfl, rfl, by decide +kernel, rfl, by decide +kernel, by decide +kernel⟩
theorem ok_gvTwice {f : Addr} {fd : FuncData} (F : Fun K "give_twice" "give_twice" sGvTwice f fd) : FnOk P w K mg base CX0 1 f fd ND (spGive K "twice") := by
  refine F.ok scGvTwice (fun vs H Q E h => lenG rfl h) (fun cdv A outer s H vs Q E hr h => ?_)
  obtain ⟨b, h, x, p, pre, rfl, hn, hok, hb, hh, k⟩ := h
  cases p <;> first | exact absurd hn (by decide +kernel) | (dsimp only [Stp.name] at hn; exact absurd hn (by decide +kernel)) | skip
  have nd := scGvTwice.nd
  refine ⟨_, pss_one (ps_ret (pe_tup (pa_cons (pe_tup (pa_cons (pv 2) (pa_cons (pv 2) pa_nil))) (pa_cons (pv 1) pa_nil)))), ?_⟩
  refine ⟨_, rfl, _, rfl, (by show 2 ≤ sizeLine; decide), fun g ng => ⟨_, rfl, ?_⟩⟩
  have s1 := same_upd (o := .tup [V.int x, .int x]) (Same.refl H) ng
  exact give_end (p := .twice) (pre := pre) s1 sqt_new (hh.same s1) k
theorem scGvSums : FnScope ND2 ND (defScope sGvSums) := ⟨rfl, rfl, rfl, by decide +kernel, rfl, by decide +kernel, by decide +kernel⟩
theorem ok_gvSums {f : Addr} {fd : FuncData} (F : Fun K "give_sums" "give_sums" sGvSums f fd) : FnOk P w K mg base CX0 1 f fd ND (spGive K "sums") := by
  refine F.ok scGvSums (fun vs H Q E h => lenG rfl h) (fun cdv A outer s H vs Q E hr h => ?_)
  obtain ⟨b, h, x, p, pre, rfl, hn, hok, hb, hh, k⟩ := h
  cases p <;> first | exact absurd hn (by decide +kernel) | (dsimp only [Stp.name] at hn; exact absurd hn (by decide +kernel)) | skip
  have nd := scGvSums.nd
  refine ⟨_, pss_cons (ps_asg (pv 1) (pg_tup rfl (pgs_cons (pg_name (i := 3) nd rfl (Or.inl rfl)) (pgs_cons (pg_name (i := 4) nd rfl (Or.inl rfl)) pgs_nil))))
    (pss_one (ps_ret (pe_tup (pa_cons (pe_tup (pa_cons (pe_op op_add (pv 4) (pv 2)) pa_nil)) (pa_cons (pe_tup (pa_cons (pv 3) (pa_cons (pe_op op_add (pv 4) (pv 2)) pa_nil))) pa_nil))))), ?_⟩
  refine ⟨_, rfl, h, _, rfl, hh, rfl, _, _, rfl, _, _, rfl, rfl, ?_⟩
  refine ⟨_, rfl, _, rfl, _, _, rfl, rfl, (by show 1 ≤ sizeLine; decide), fun g ng => ?_⟩
  have s1 := same_upd (o := .tup [V.int (pre.sum + x)]) (Same.refl H) ng
  refine ⟨_, rfl, _, rfl, _, rfl, _, _, rfl, rfl, (by show 2 ≤ sizeLine; decide), fun q nq => ?_⟩
  refine give_end (p := .sums) (pre := pre) (same_upd s1 nq) (sqt_same (same_upd (Same.refl _) nq) ?_) ?_ k
  · have := sqt_new (K := K) (H := H) (a := g) (xs := [V.int (pre.sum + x)])
    dsimp only [Stp.out]
    rw [sum_snoc]
    exact this
  · have := sqt_new (K := K) (H := upd H g (.tup [V.int (pre.sum + x)])) (a := q) (xs := [.int 0, .int (pre.sum + x)])
    dsimp only [HeldAt, Stp.held]
    rw [sum_snoc]
    exact this
theorem scGvGaps : FnScope ND2 ND (defScope sGvGaps) := ⟨rfl, rfl, rfl, by decide +kernel, rfl, by decide +kernel, by decide +kernel⟩
theorem ok_gvGaps {f : Addr} {fd : FuncData} (F : Fun K "give_gaps" "give_gaps" sGvGaps f fd) : FnOk P w K mg base CX0 1 f fd ND (spGive K "gaps") := by
  refine F.ok scGvGaps (fun vs H Q E h => lenG rfl h) (fun cdv A outer s H vs Q E hr h => ?_)
  obtain ⟨b, h, x, p, pre, rfl, hn, hok, hb, hh, k⟩ := h
  cases p <;> first | exact absurd hn (by decide +kernel) | (dsimp only [Stp.name] at hn; exact absurd hn (by decide +kernel)) | skip
  have nd := scGvGaps.nd
  refine ⟨_, pss_cons (ps_asg (pv 1) (pg_tup rfl (pgs_cons (pg_name (i := 3) nd rfl (Or.inl rfl)) (pgs_cons (pg_name (i := 4) nd rfl (Or.inl rfl)) pgs_nil))))
    (pss_one (ps_ret (pe_tup (pa_cons (pe_tup (pa_cons (pe_op op_sub (pv 2) (pv 4)) pa_nil)) (pa_cons (pe_tup (pa_cons (pv 3) (pa_cons (pv 2) pa_nil))) pa_nil))))), ?_⟩
  refine ⟨_, rfl, h, _, rfl, hh, rfl, _, _, rfl, _, _, rfl, rfl, ?_⟩
  refine ⟨_, rfl, _, rfl, _, _, rfl, rfl, (by show 1 ≤ sizeLine; decide), fun g ng => ?_⟩
  have s1 := same_upd (o := .tup [V.int (x - pre.getLastD 0)]) (Same.refl H) ng
  refine ⟨_, rfl, _, rfl, (by show 2 ≤ sizeLine; decide), fun q nq => ?_⟩
  refine give_end (p := .gaps) (pre := pre) (same_upd s1 nq) (sqt_same (same_upd (Same.refl _) nq) ?_) ?_ k
  · exact sqt_new (K := K) (H := H) (a := g) (xs := [V.int (x - pre.getLastD 0)])
  · have := sqt_new (K := K) (H := upd H g (.tup [V.int (x - pre.getLastD 0)])) (a := q) (xs := [.int 0, .int x])
    dsimp only [HeldAt, Stp.held]
    rw [gaps_snoc]
    exact this
theorem scGvCount : FnScope ND2 ND (defScope sGvCount) := ⟨rfl, rfl, rfl, by decide +kernel, rfl, by decide +kernel, by decide +kernel⟩
theorem ok_gvCount {f : Addr} {fd : FuncData} (F : Fun K "give_count" "give_count" sGvCount f fd) : FnOk P w K mg base CX0 1 f fd ND (spGive K "count") := by
  refine F.ok scGvCount (fun vs H Q E h => lenG rfl h) (fun cdv A outer s H vs Q E hr h => ?_)
  obtain ⟨b, h, x, p, pre, rfl, hn, hok, hb, hh, k⟩ := h
  cases p <;> first | exact absurd hn (by decide +kernel) | (dsimp only [Stp.name] at hn; exact absurd hn (by decide +kernel)) | skip
  have nd := scGvCount.nd
  refine ⟨_, pss_cons (ps_asg (pv 1) (pg_tup rfl (pgs_cons (pg_name (i := 3) nd rfl (Or.inl rfl)) (pgs_cons (pg_name (i := 4) nd rfl (Or.inl rfl)) pgs_nil))))
    (pss_one (ps_ret (pe_tup (pa_cons (pe_tup (pa_cons (pe_op op_add (pv 4) pe_int) pa_nil)) (pa_cons (pe_tup (pa_cons (pv 3) (pa_cons (pe_op op_add (pv 4) pe_int) pa_nil))) pa_nil))))), ?_⟩
  refine ⟨_, rfl, h, _, rfl, hh, rfl, _, _, rfl, _, _, rfl, rfl, ?_⟩
  refine ⟨_, rfl, _, _, rfl, rfl, (by show 1 ≤ sizeLine; decide), fun g ng => ?_⟩
  have s1 := same_upd (o := .tup [V.int ((pre.length : Int) + 1)]) (Same.refl H) ng
  refine ⟨_, rfl, _, rfl, _, _, rfl, rfl, (by show 2 ≤ sizeLine; decide), fun q nq => ?_⟩
  refine give_end (p := .count) (pre := pre) (same_upd s1 nq) (sqt_same (same_upd (Same.refl _) nq) ?_) ?_ k
  · exact sqt_new (K := K) (H := H) (a := g) (xs := [V.int ((pre.length : Int) + 1)])
  · have := sqt_new (K := K) (H := upd H g (.tup [V.int ((pre.length : Int) + 1)])) (a := q) (xs := [.int 0, .int ((pre.length : Int) + 1)])
    dsimp only [HeldAt, Stp.held]
    rw [List.length_append, List.length_singleton]
    exact this
theorem scGvAnew : FnScope ND2 ND (defScope sGvAnew) := ⟨rfl, rfl, rfl, by decide +kernel, rfl, by decide +kernel, by decide +kernel⟩
theorem ok_gvAnew {f : Addr} {fd : FuncData} (F : Fun K "give_anew" "give_anew" sGvAnew f fd) : FnOk P w K mg base CX0 1 f fd ND (spGive K "anew") := by
  refine F.ok scGvAnew (fun vs H Q E h => lenG rfl h) (fun cdv A outer s H vs Q E hr h => ?_)
  obtain ⟨b, h, x, p, pre, rfl, hn, hok, hb, hh, k⟩ := h
  cases p <;> first | exact absurd hn (by decide +kernel) | (dsimp only [Stp.name] at hn; exact absurd hn (by decide +kernel)) | skip
  have nd := scGvAnew.nd
  rename_i m r
  obtain ⟨hm, r0, r1⟩ := hok
  have m0 : 0 < m := by unfold two3 at hm; omega
  refine ⟨_, pss_cons (ps_asg (pv 1) (pg_tup rfl (pgs_cons (pg_name (i := 3) nd rfl (Or.inl rfl)) (pgs_cons (pg_name (i := 4) nd rfl (Or.inl rfl)) pgs_nil))))
    (pss_cons (ps_if (pt_cmpR op_eq (pe_op op_mod (pv 2) (pe_ix (r := rIxT K) ix_tup (pv 0) pe_int (fun _ _ => rfl))) (pe_ix (r := rIxT K) ix_tup (pv 0) pe_int (fun _ _ => rfl)) (nomark _)) (pss_one (ps_set (i := 4) nd rfl (Or.inl rfl) pe_int)) pss_nil)
    (pss_one (ps_ret (pe_tup (pa_cons (pe_tup (pa_cons (pe_op op_add (pv 4) (pv 2)) pa_nil)) (pa_cons (pe_tup (pa_cons (pv 3) (pa_cons (pe_op op_add (pv 4) (pv 2)) pa_nil))) pa_nil)))))), ?_⟩
  refine ⟨_, rfl, h, _, rfl, hh, rfl, _, _, rfl, _, _, rfl, rfl, ?_⟩
  refine ⟨_, rfl, _, rfl, b, _, 1, .int m, rfl, rfl, hb, atI_nat (j := 1) rfl, _, _, rfl, rfl, m0, _, rfl, b, _, 2, .int r, rfl, rfl, hb, atI_nat (j := 2) rfl, rfl, _, rfl, ?_⟩
  have hi := rem_iff (x := x) hm r0 r1
  have hs := anew_snoc m r pre x
  have fin : ∀ tot : Int, (((pre ++ [x]).drop (lastHit m r (pre ++ [x]))).sum = tot + x) → ∀ g, H g = none → ∀ q, upd H g (.tup [V.int (tot + x)]) q = none → 2 ≤ sizeLine ∧ ∀ t, upd (upd H g (.tup [V.int (tot + x)])) q (.tup [.int 0, .int (tot + x)]) t = none → Q (.ref t) (upd (upd (upd H g (.tup [V.int (tot + x)])) q (.tup [.int 0, .int (tot + x)])) t (.tup [.ref g, .ref q])) := fun tot e g ng q nq => by
    refine give_end (p := .anew m r) (pre := pre) (same_upd (same_upd (Same.refl H) ng) nq) (sqt_same (same_upd (Same.refl _) nq) ?_) ?_ k
    · have := sqt_new (K := K) (H := H) (a := g) (xs := [V.int (tot + x)])
      dsimp only [Stp.out]
      rw [e]
      exact this
    · have := sqt_new (K := K) (H := upd H g (.tup [V.int (tot + x)])) (a := q) (xs := [.int 0, .int (tot + x)])
      dsimp only [HeldAt, Stp.held]
      rw [e]
      exact this
  by_cases hc : x % m = r
  · refine eqT (congrArg V.int hc) ?_
    rw [if_pos (hi.mpr hc)] at hs
    exact ⟨_, rfl, _, rfl, _, _, rfl, rfl, (by show 1 ≤ sizeLine; decide), fun g ng => ⟨_, rfl, _, rfl, _, rfl, _, _, rfl, rfl, (by show 2 ≤ sizeLine; decide), fun q nq => fin _ hs g ng q nq⟩⟩
  · refine eqF (fun z => hc (by injection z)) ?_
    rw [if_neg (fun z => hc (hi.mp z))] at hs
    exact ⟨_, rfl, _, rfl, _, _, rfl, rfl, (by show 1 ≤ sizeLine; decide), fun g ng => ⟨_, rfl, _, rfl, _, rfl, _, _, rfl, rfl, (by show 2 ≤ sizeLine; decide), fun q nq => fin _ hs g ng q nq⟩⟩
theorem scGvGroups : FnScope ND2 ND (defScope sGvGroups) := ⟨rfl, rfl, rfl, by decide +kernel, rfl, by decide +kernel, by decide +kernel⟩
theorem ok_gvGroups {f : Addr} {fd : FuncData} {nh : Addr} (F : Fun K "give_groups" "give_groups" sGvGroups f fd) (mN : mg "NOTHING_HELD" = some (.ref nh)) (hN : ∀ H, SqT K H nh [.int 0, .int 0]) : FnOk P w K mg base CX0 1 f fd ND (spGive K "groups") := by
  refine F.ok scGvGroups (fun vs H Q E h => lenG rfl h) (fun cdv A outer s H vs Q E hr h => ?_)
  obtain ⟨b, h, x, p, pre, rfl, hn, hok, hb, hh, k⟩ := h
  cases p <;> first | exact absurd hn (by decide +kernel) | (dsimp only [Stp.name] at hn; exact absurd hn (by decide +kernel)) | skip
  have nd := scGvGroups.nd
  rename_i m
  have hm : two3 m := hok
  refine ⟨_, pss_cons (ps_asg (pv 1) (pg_tup rfl (pgs_cons (pg_name (i := 3) nd rfl (Or.inl rfl)) (pgs_cons (pg_name (i := 4) nd rfl (Or.inl rfl)) pgs_nil))))
    (pss_cons (ps_if (pt_cmp (pc_lt (pe_op op_add (pv 3) pe_int) (pe_ix (r := rIxT K) ix_tup (pv 0) pe_int (fun _ _ => rfl)))) (pss_one (ps_ret (pe_tup (pa_cons (pe_tup pa_nil) (pa_cons (pe_tup (pa_cons (pe_op op_add (pv 3) pe_int) (pa_cons (pe_op op_add (pv 4) (pv 2)) pa_nil))) pa_nil))))) pss_nil)
    (pss_one (ps_ret (pe_tup (pa_cons (pe_tup (pa_cons (pe_op op_add (pv 4) (pv 2)) pa_nil)) (pa_cons (pe_glob (v := .ref nh) rfl mN rfl) pa_nil)))))), ?_⟩
  refine ⟨_, rfl, h, _, rfl, hh, rfl, _, _, rfl, _, _, rfl, rfl, ?_⟩
  refine ⟨_, rfl, _, _, rfl, rfl, _, rfl, b, _, 1, .int m, rfl, rfl, hb, atI_nat (j := 1) rfl, _, _, rfl, rfl, _, rfl, ?_⟩
  refine ite2 (fun hlt => ?_) (fun hlt => ?_)
  · have hlt : (pre.length : Int) % m + 1 < m := of_decide_eq_true hlt
    obtain ⟨g1, g2, g3⟩ := groups_low hm (x := x) hlt
    refine ⟨(by show 0 ≤ sizeLine; decide), fun g ng => ?_⟩
    have s1 := same_upd (o := .tup []) (Same.refl H) ng
    refine ⟨_, rfl, _, _, rfl, rfl, _, rfl, _, rfl, _, _, rfl, rfl, (by show 2 ≤ sizeLine; decide), fun q nq => ?_⟩
    refine give_end (p := .groups m) (pre := pre) (same_upd s1 nq) (sqt_same (same_upd (Same.refl _) nq) ?_) ?_ k
    · have := sqt_new (K := K) (H := H) (a := g) (xs := [])
      dsimp only [Stp.out]
      rw [if_neg g1]
      exact this
    · have := sqt_new (K := K) (H := upd H g (.tup [])) (a := q) (xs := [.int ((pre.length : Int) % m + 1), .int ((pre.drop (pre.length - pre.length % m.toNat)).sum + x)])
      dsimp only [HeldAt, Stp.held]
      rw [g3, List.length_append, List.length_singleton, Int.natCast_add, Int.natCast_one, g2]
      exact this
  · have hlt : ¬ (pre.length : Int) % m + 1 < m := fun z => hlt (decide_eq_true z)
    obtain ⟨g1, g2, g3⟩ := groups_high hm (x := x) hlt
    refine ⟨_, rfl, _, rfl, _, _, rfl, rfl, (by show 1 ≤ sizeLine; decide), fun g ng => ?_⟩
    have s1 := same_upd (o := .tup [V.int ((pre.drop (pre.length - pre.length % m.toNat)).sum + x)]) (Same.refl H) ng
    refine give_end (p := .groups m) (pre := pre) s1 ?_ ?_ k
    · have := sqt_new (K := K) (H := H) (a := g) (xs := [V.int ((pre.drop (pre.length - pre.length % m.toNat)).sum + x)])
      dsimp only [Stp.out]
      rw [if_pos g1, g2]
      exact this
    · dsimp only [HeldAt, Stp.held]
      rw [g3, List.length_append, List.length_singleton, Int.natCast_add, Int.natCast_one, g1]
      exact hN _
end
end FC
set_option Elab.async false
set_option linter.all false
set_option maxRecDepth 100000
set_option maxHeartbeats 4000000
namespace FC
open PySem L2
/-- a value in a step's place: a tuple of nice values, or another thing -/
def StepV (K : PySem.W.Frag) (H : Hp) (x : V) : Option (List V) → Prop
  | some ys => ∃ b, x = .ref b ∧ SqT K H b ys ∧ ∀ y ∈ ys, Nice K H y
  | none => ∃ T, T ∈ kinds ∧ T ≠ "tuple" ∧ TyX K H x (.type T)
def stepOkO : Option (List V) → Bool
  | some ys => stepOk ys
  | none => false
theorem StepV.same {K : PySem.W.Frag} {H H' : Hp} {x : V} {o : Option (List V)} (e : Same H H') (h : StepV K H x o) : StepV K H' x o := by
  cases o with
  | some ys =>
    obtain ⟨b, h1, h2, h3⟩ := h
    exact ⟨b, h1, sqt_same e h2, fun y hy => (h3 y hy).same e⟩
  | none =>
    obtain ⟨T, h1, h2, h3⟩ := h
    exact ⟨T, h1, h2, tyX_same e h3⟩
def spIsStep (K : PySem.W.Frag) : Sp := fun vs H Q _ => ∃ x o, vs = [x] ∧ StepV K H x o ∧ ∀ H', Same H H' → Q (.bl (stepOkO o)) H'
theorem at0 {α : Type} (y : α) (r : List α) : atI (y :: r) 0 = some y := by
  have h := atI_nat (xs := y :: r) (j := 0) (v := y) rfl
  exact h
theorem cut1 (y : V) (r : List V) : cutV (y :: r) (some 1) none = r := by
  simp [cutV, HT.sIx]
section
variable {P : Program} {w : World} {K : PySem.W.Frag} {mg : Str → Option Value} {base : Heap}
theorem scIsStep : FnScope ["value", "name"] ["value"] (defScope sIsStep) := ⟨rfl, rfl, rfl, by decide +kernel, rfl, by decide +kernel, by decide +kernel⟩
theorem ok_isStep {f dL : Addr} {fd : FuncData} (F : Fun K "is_step" "is_step" sIsStep f fd) (T : Blt mg) (C : Cal P w K mg base CX0 2 "are_within" ["letters", "numbers"] (spWithin K)) (mL : mg "LETTERS" = some (.ref dL)) (B : LetT K w dL) :
    FnOk P w K mg base CX0 3 f fd ["value"] (spIsStep K) := by
  refine F.ok scIsStep (fun vs H Q E h => ?_) (fun cdv A outer s H vs Q E hr h => ?_)
  · obtain ⟨x, o, rfl, _⟩ := h
    rfl
  · obtain ⟨x, o, rfl, hx, k⟩ := h
    have nd := scIsStep.nd
    obtain ⟨es, nn, kd⟩ := B.kd
    refine ⟨_, pss_cons (ps_if (PW.pt (pw_or (pt_not (pt_val (pe_callB call_isi (by rfl) T.isi (by decide +kernel) (pa_cons (pv 0) (pa_cons (pe_bltn (v := .ty "tuple") (by rfl) T.tuple (by decide +kernel) rfl) pa_nil))))) (pw_or1 (pt_cmpR op_eq (pe_callB call_len (by rfl) T.len PySem.boot_len (pa_cons (pv 0) pa_nil)) pe_int (nomark _))))) (pss_one (ps_ret pe_bl)) pss_nil)
      (pss_cons (ps_set (i := 1) nd rfl (Or.inl rfl) (pe_ix ix_tup (pv 0) pe_int (fun _ _ => rfl)))
      (pss_cons (ps_if (PW.pt (pw_or (pt_not (pt_val (pe_callB call_isi (by rfl) T.isi (by decide +kernel) (pa_cons (pv 1) (pa_cons (pe_bltn (v := .ty "str") (by rfl) T.str (by decide +kernel) rfl) pa_nil))))) (pw_or1 (pt_cmpR (op_notIn_kd kd) (pv 1) (pe_glob (v := .ref dL) rfl mL rfl) rfl)))) (pss_one (ps_ret pe_bl)) pss_nil)
      (pss_one (ps_ret (pe_cal C hr pass0 (pa_cons (pe_ix ix_kdict (pe_glob (v := .ref dL) rfl mL rfl) (pv 1) (fun _ _ => rfl)) (pa_cons (pe_slice sl_tup (pv 0) (po_some pe_int) po_none) pa_nil))))))), ?_⟩
    cases o with
    | none =>
      obtain ⟨t, ht, hnt, hty⟩ := hx
      refine ⟨_, rfl, _, _, _, _, _, rfl, .ty _, hty, kit_ty (kit_tuple t ht), _, rfl, ?_⟩
      rw [show (t == "tuple") = false from beq_eq_false_iff_ne.mpr hnt]
      exact iteT (iteT (k H (Same.refl H)))
    | some ys =>
      obtain ⟨b, rfl, hb, hn⟩ := hx
      refine ⟨_, rfl, _, _, _, _, _, rfl, .ty _, ty_tup hb, kit_ty (kit_tuple "tuple" (by decide)), _, rfl, iteF ?_⟩
      refine ⟨_, rfl, _, ys.length, rfl, .inr ⟨_, hb, rfl⟩, rfl, _, rfl, ?_⟩
      cases ys with
      | nil => exact iteT (k H (Same.refl H))
      | cons y r =>
        have e : decide (V.int ((y :: r).length : Nat) = V.int 0) = false := decide_eq_false fun z => by
          injection z with z
          rw [List.length_cons] at z
          omega
        show if decide (V.int ((y :: r).length : Nat) = V.int 0) = true then _ else _
        rw [e]
        refine iteF ?_
        -- name = value[0]
        refine ⟨_, rfl, b, _, _, y, rfl, rfl, hb, at0 y r, ?_⟩
        obtain ⟨t, ht, hty⟩ := hn y (by simp)
        refine ⟨_, rfl, _, _, _, _, _, rfl, .ty _, hty, kit_ty (kit_str t ht), _, rfl, ?_⟩
        by_cases hS : isS y = false
        · rw [isS_of hty] at hS
          rw [hS]
          refine iteT (iteT ?_)
          have := k H (Same.refl H)
          have e2 : stepOkO (some (y :: r)) = false := by
            rw [← isS_of hty] at hS
            cases y <;> first | rfl | cases hS
          rw [e2] at this
          exact this
        · obtain ⟨z, rfl⟩ : ∃ z, y = V.str z := by
            cases y <;> first | exact ⟨_, rfl⟩ | exact absurd rfl hS
          rw [show (t == "str") = true from (isS_of hty).symm]
          refine iteF ?_
          obtain ⟨o, ho, hm⟩ := B.at_ z
          refine ⟨_, rfl, z, o, rfl, rfl, ho, _, rfl, ?_⟩
          cases el : tab.lookup z with
          | none =>
            rw [el] at hm
            rw [hm]
            refine iteT ?_
            have := k H (Same.refl H)
            have e2 : stepOkO (some (V.str z :: r)) = false := by
              show stepOkN z r = false
              unfold stepOkN
              rw [el]
            rw [e2] at this
            exact this
          | some ls =>
            rw [el] at hm
            obtain ⟨a, hm, hls⟩ := hm
            rw [hm]
            refine iteF ?_
            rw [hm] at ho
            refine ⟨_, rfl, dL, z, .ref a, rfl, rfl, ⟨es, nn, _, kd.at_, kd.lit, ho, rfl⟩, ?_⟩
            refine ⟨_, rfl, _, rfl, b, _, rfl, hb, ?_, fun p np => ?_⟩
            · simp [HT.sIx]
            · rw [cut1]
              have s1 := same_upd (o := .tup r) (Same.refl H) np
              have all : ∀ q ∈ tab, ∀ l ∈ q.2, l ∈ letters5 := by decide +kernel
              refine ⟨a, p, ls, r, rfl, hls _, SqT.of upd_same, all _ (lookup_mem el), fun x hx => (hn x (List.mem_cons_of_mem _ hx)).same s1, fun H' s2 => ?_⟩
              have := k H' (Same.trans s1 s2)
              have e2 : stepOkO (some (V.str z :: r)) = (decide (ls.length = r.length) && within ls r 0) := by
                show stepOkN z r = _
                unfold stepOkN
                rw [el]
              rw [e2] at this
              exact this
end
end FC
set_option Elab.async false
set_option linter.all false
set_option maxRecDepth 100000
set_option maxHeartbeats 4000000
namespace FC
open PySem L2
/-- values in the places of a chain's steps -/
structure Steps (K : PySem.W.Frag) (H : Hp) (xs : List V) (os : List (Option (List V))) : Prop where
  len : xs.length = os.length
  at_ : ∀ (i : Nat) (x : V) (o : Option (List V)), xs[i]? = some x → os[i]? = some o → StepV K H x o
theorem Steps.same {K : PySem.W.Frag} {H H' : Hp} {xs : List V} {os : List (Option (List V))} (e : Same H H') (s : Steps K H xs os) : Steps K H' xs os :=
  ⟨s.len, fun i x o h1 h2 => (s.at_ i x o h1 h2).same e⟩
def spLimits (K : PySem.W.Frag) : Sp := fun vs H Q _ => ∃ a xs cs, vs = [.ref a] ∧ SqT K H a xs ∧ Steps K H xs (cs.map some) ∧ xs.length ≤ 1000 ∧ (∀ ys ∈ cs, stepOk ys = true) ∧ ∀ H', Same H H' → Q (.bl (limOk cs)) H'
theorem get_lt {α : Type} {l : List α} {i : Nat} {x : α} (h : l[i]? = some x) : i < l.length := (List.getElem?_eq_some_iff.mp h).1
theorem take_succ_get {α : Type} {l : List α} {i : Nat} {x : α} (h : l[i]? = some x) : l.take (i + 1) = l.take i ++ [x] := by
  rw [List.take_add_one, h]
  rfl
theorem inV_strs (n : Str) (ns : List Str) : inV (.str n) (ns.map V.str) = decide (n ∈ ns) := by
  unfold inV
  induction ns with
  | nil => simp
  | cons m r ih =>
    rw [List.map_cons, List.any_cons, ih]
    show (m == n || decide (n ∈ r)) = _
    by_cases h : n = m
    · subst h; simp
    · have h2 : (m == n) = false := beq_eq_false_iff_ne.mpr (fun z => h z.symm)
      rw [h2]
      simp [h]
theorem flat_strs (ns : List Str) : (ns.map V.str).all flatV = true := by
  simp [flatV]
section
variable {P : Program} {w : World} {K : PySem.W.Frag} {mg : Str → Option Value} {base : Heap}
theorem scLimits : FnScope ["steps", "most", "names", "step"] ["steps"] (defScope sLimits) := ⟨rfl, rfl, rfl, by decide +kernel, rfl, by decide +kernel, by decide +kernel⟩
theorem ok_limits {f dI : Addr} {fd : FuncData} (F : Fun K "keeps_limits" "keeps_limits" sLimits f fd) (T : Blt mg) (mI : mg "LIMITS" = some (.ref dI)) (B : LimT K dI) :
    FnOk P w K mg base CX0 1 f fd ["steps"] (spLimits K) := by
  refine F.ok scLimits (fun vs H Q E h => ?_) (fun cdv A outer s H vs Q E hr h => ?_)
  · obtain ⟨x, o, _, rfl, _⟩ := h
    rfl
  · obtain ⟨a, xs, cs, rfl, ha, hs, hlen, hok, k⟩ := h
    have nd := scLimits.nd
    obtain ⟨rs, hI, hrs, hat⟩ := B.at_
    refine ⟨_, pss_cons (ps_for PassesOwn.never rfl (pi_tup (pe_glob (v := .ref dI) rfl mI rfl)) (pg_tup rfl (pgs_cons (pg_name (i := 1) nd rfl (Or.inl rfl)) (pgs_cons (pg_name (i := 2) nd rfl (Or.inr rfl)) pgs_nil)))
        (pss_one (ps_if (pt_cmp (pc_gt (pe_callB call_len (by rfl) T.len PySem.boot_len (pa_cons
          (pe_lc (own := [("step", 3)]) (g := gName 3) (by rfl) nd (pi_tup (pv 0)) (blkOk_by (own := [("step", 3)]) (N := ["steps", "most", "names", "step"]) (sc := defScope sLimits) (by decide +kernel)) (fun _ _ _ _ _ => pg_name (i := 3) nd rfl (Or.inl rfl))
            (fun _ _ _ _ _ => pts_one (pt_cmpR (r := rIn K false) op_in_seq (pe_ix (r := rIxT K) ix_tup (pv 3) pe_int (fun _ _ => rfl)) (pv 2) rfl)) (fun _ _ _ _ _ => pv 3)) pa_nil)) (pv 1))) (pss_one (ps_ret pe_bl)) pss_nil)))
      (pss_one (ps_ret pe_bl)), ?_⟩
    refine ⟨dI, rfl, ⟨_, hI H⟩, for_tup (K := K) (a := dI) (xs := rs.map V.ref) (fun i σ H2 => ∃ v1 v2 v3 : Option V, σ = [some (.ref a), v1, v2, v3] ∧ Same H H2 ∧ (lims.take i).all (fun p => decide ((cs.filter (headIn p.2)).length ≤ p.1)) = true)
      ⟨none, none, none, rfl, Same.refl H, rfl⟩ (fun i σ H2 _ _ => hI H2) ?_ ?_⟩
    · rintro i x σ H2 hx ⟨v1, v2, v3, rfl, s2, hall⟩
      have hi : i < rs.length := by
        have := get_lt hx
        rwa [List.length_map] at this
      obtain ⟨r, hr', rfl⟩ : ∃ r, rs[i]? = some r ∧ x = V.ref r := ⟨rs[i], List.getElem?_eq_getElem hi, by
        rw [List.getElem?_map, List.getElem?_eq_getElem hi] at hx
        exact (Option.some.inj hx).symm⟩
      obtain ⟨⟨m, names⟩, hp⟩ : ∃ p, lims[i]? = some p := ⟨lims[i]'(by omega), List.getElem?_eq_getElem (by omega)⟩
      obtain ⟨c, h1, h2⟩ := hat i (m, names) r hp hr'
      refine ⟨r, _, rfl, h1 _, rfl, _, _, rfl, _, _, rfl, rfl, ?_⟩
      -- the comprehension
      refine ⟨_, rfl, a, rfl, ⟨_, sqt_same s2 ha⟩, fun D nD => ?_⟩
      have sD : Same H (upd H2 D (.lst [])) := same_upd s2 nD
      refine lc_tup (K := K) (a := a) (xs := xs) (fun j H3 => ∃ acc : List V, H3 D = some (.lst acc) ∧ acc.length = ((cs.take j).filter (headIn names)).length ∧ Same H H3)
        ⟨[], upd_same, rfl, sD⟩ (fun j H3 _ ⟨_, _, _, s3⟩ => sqt_same s3 ha) ?_ ?_
      · rintro j y H3 hy ⟨acc, hD, hacc, s3⟩
        have hj : j < cs.length := by
          have := get_lt hy
          rw [hs.len, List.length_map] at this
          exact this
        have hcj : (cs.map some)[j]? = some (some cs[j]) := by rw [List.getElem?_map, List.getElem?_eq_getElem hj]; rfl
        obtain ⟨b, rfl, hb, hn⟩ := hs.at_ j y _ hy hcj
        have hcm : cs[j] ∈ cs := List.getElem_mem hj
        obtain ⟨name, ns, ec, _⟩ := stepOk_shape (hok _ hcm)
        rw [ec] at hb
        have et : (cs.take (j + 1)).filter (headIn names) = (cs.take j).filter (headIn names) ++ (if name ∈ names then [cs[j]] else []) := by
          rw [take_succ_get (List.getElem?_eq_getElem hj), List.filter_append]
          congr 1
          rw [List.filter_cons, ec]
          show (if decide (name ∈ names) = true then _ else _) = _
          by_cases hm : name ∈ names
          · rw [if_pos hm, if_pos (decide_eq_true hm)]; rfl
          · rw [if_neg hm, if_neg (by simpa using hm)]; rfl
        refine ⟨rfl, _, rfl, b, _, _, .str name, rfl, rfl, sqt_same s3 hb, at0 _ _, _, rfl, c, names.map V.str, rfl, .inr (h2 _), rfl, flat_strs _, _, rfl, ?_⟩
        show if inV (.str name) (names.map V.str) = true then _ else _
        rw [inV_strs]
        refine ite2 (fun hm => ?_) (fun hm => ?_)
        · have hm := of_decide_eq_true hm
          rw [if_pos hm] at et
          have hle : acc.length ≤ j := by
            rw [hacc]
            exact Nat.le_trans (List.length_filter_le _ _) (by rw [List.length_take]; omega)
          have hjx := get_lt hy
          refine ⟨_, rfl, acc, hD, small1000 (by omega), acc ++ [.ref b], upd_same, ?_, ?_⟩
          · rw [et, List.length_append, List.length_append, hacc]
            rfl
          · intro q u hq
            have hqD : q ≠ D := fun z => by
              have := s2 q u hq
              rw [z, nD] at this
              cases this
            rw [upd_ne hqD]
            exact s3 q u hq
        · have hm : ¬ name ∈ names := fun z => hm (decide_eq_true z)
          rw [if_neg hm, List.append_nil] at et
          exact ⟨acc, hD, by rw [et]; exact hacc, s3⟩
      · rintro H3 ⟨acc, hD, hacc, s3⟩
        rw [hs.len, List.length_map, List.take_length] at hacc
        refine ⟨_, acc.length, rfl, .inl ⟨acc, SqL.of hD, rfl⟩, _, rfl, _, _, rfl, rfl, _, rfl, ?_⟩
        refine ite2 (fun hgt => ?_) (fun hgt => ?_)
        · have hgt : ((m : Nat) : Int) < (acc.length : Int) := of_decide_eq_true hgt
          have := k H3 s3
          have e : limOk cs = false := by
            cases el : limOk cs with
            | false => rfl
            | true =>
              unfold limOk at el
              have := List.all_eq_true.mp el (m, names) (List.mem_of_getElem? hp)
              have := of_decide_eq_true this
              have : (cs.filter (headIn names)).length ≤ m := this
              omega
          rw [e] at this
          exact this
        · have hgt : ¬ ((m : Nat) : Int) < (acc.length : Int) := fun z => hgt (decide_eq_true z)
          refine ⟨_, _, _, rfl, s3, ?_⟩
          rw [take_succ_get hp, List.all_append, hall]
          show (true && (decide ((cs.filter (headIn names)).length ≤ m) && true)) = true
          rw [decide_eq_true (by omega)]
          rfl
    · rintro σ H2 ⟨v1, v2, v3, rfl, s2, hall⟩
      have := k H2 s2
      have e : limOk cs = true := by
        unfold limOk
        rw [List.length_map, hrs, List.take_length] at hall
        exact hall
      rw [e] at this
      exact this
end
end FC
set_option Elab.async false
set_option linter.all false
set_option maxRecDepth 100000
set_option maxHeartbeats 4000000
namespace FC
open PySem L2
/-- a value in a chain's place: a tuple, or another thing -/
def ChainV (K : PySem.W.Frag) (H : Hp) (x : V) : Option (List (Option (List V))) → Prop
  | some os => ∃ a xs, x = .ref a ∧ SqT K H a xs ∧ Steps K H xs os
  | none => ∃ T, T ∈ kinds ∧ T ≠ "tuple" ∧ TyX K H x (.type T)
def chainOkL (os : List (Option (List V))) : Bool := decide (os.length ≤ 4) && (os.all stepOkO && limOk (os.filterMap id))
def chainOkO : Option (List (Option (List V))) → Bool
  | some os => chainOkL os
  | none => false
theorem chainOkL_some (cs : List (List V)) : chainOkL (cs.map some) = chainOk cs := by
  unfold chainOkL chainOk
  have e1 : (cs.map some).all stepOkO = cs.all stepOk := by
    rw [List.all_map]
    rfl
  have e2 : (cs.map some).filterMap id = cs := by
    induction cs with
    | nil => rfl
    | cons c r ih =>
      rw [List.map_cons, List.filterMap_cons]
      show c :: _ = _
      rw [ih (by
        rw [List.all_map]
        rfl)]
  rw [e1, e2, List.length_map]
theorem all_somes : ∀ {os : List (Option (List V))}, os.all stepOkO = true → os = (os.filterMap id).map some
  | [], _ => rfl
  | none :: r, h => by simp [stepOkO] at h
  | some c :: r, h => by
    rw [List.all_cons, Bool.and_eq_true] at h
    have ih := all_somes h.2
    show some c :: r = some c :: (r.filterMap id).map some
    rw [← ih]
theorem somes_ok {os : List (Option (List V))} (h : os.all stepOkO = true) : ∀ ys ∈ os.filterMap id, stepOk ys = true := fun ys hy => by
  obtain ⟨o, ho, e⟩ := List.mem_filterMap.mp hy
  have e : o = some ys := e
  have := List.all_eq_true.mp h o ho
  rw [e] at this
  exact this
def spIsChain (K : PySem.W.Frag) : Sp := fun vs H Q _ => ∃ x oo, vs = [x] ∧ ChainV K H x oo ∧ ∀ H', Same H H' → Q (.bl (chainOkO oo)) H'
section
variable {P : Program} {w : World} {K : PySem.W.Frag} {mg : Str → Option Value} {base : Heap}
theorem scIsChain : FnScope ["value", "step"] ["value"] (defScope sIsChain) := ⟨rfl, rfl, rfl, by decide +kernel, rfl, by decide +kernel, by decide +kernel⟩
theorem ok_isChain {f : Addr} {tM : Tok} {fd : FuncData} (F : Fun K "is_chain" "is_chain" sIsChain f fd) (T : Blt mg) (CS : Cal P w K mg base CX0 3 "is_step" ["value"] (spIsStep K)) (CL : Cal P w K mg base CX0 1 "keeps_limits" ["steps"] (spLimits K))
    (mM : mg "MOST_STEPS" = some (.int 4 tM)) : FnOk P w K mg base CX0 4 f fd ["value"] (spIsChain K) := by
  refine F.ok scIsChain (fun vs H Q E h => ?_) (fun cdv A outer s H vs Q E hr h => ?_)
  · obtain ⟨x, o, rfl, _⟩ := h
    rfl
  · obtain ⟨x, oo, rfl, hx, k⟩ := h
    have nd := scIsChain.nd
    have hr1 : Room 1 _ := hr.mono (by decide)
    refine ⟨_, pss_cons (ps_if (PW.pt (pw_or (pt_not (pt_val (pe_callB call_isi (by rfl) T.isi (by decide +kernel) (pa_cons (pv 0) (pa_cons (pe_bltn (v := .ty "tuple") (by rfl) T.tuple (by decide +kernel) rfl) pa_nil)))))
          (pw_or1 (pt_cmp (pc_gt (pe_callB call_len (by rfl) T.len PySem.boot_len (pa_cons (pv 0) pa_nil)) (pe_glob (v := .int 4) rfl mM ⟨_, rfl⟩)))))) (pss_one (ps_ret pe_bl)) pss_nil)
      (pss_one (ps_ret (pe_and (pe_callB (cr_all rfl) (by rfl) T.all (by decide +kernel) (pa_cons
          (pe_lc (own := [("step", 1)]) (g := gName 1) (by rfl) nd (pi_tup (pv 0)) (blkOk_by (own := [("step", 1)]) (N := ["value", "step"]) (sc := defScope sIsChain) (by decide +kernel)) (fun _ _ _ _ _ => pg_name (i := 1) nd rfl (Or.inl rfl))
            (fun _ _ _ _ _ => pts_nil) (fun _ _ _ _ _ => pe_cal CS hr pass0 (pa_cons (pv 1) pa_nil))) pa_nil)) (pe_one (pe_cal CL hr1 pass0 (pa_cons (pv 0) pa_nil)))))), ?_⟩
    cases oo with
    | none =>
      obtain ⟨t, ht, hnt, hty⟩ := hx
      refine ⟨_, rfl, _, _, _, _, _, rfl, .ty _, hty, kit_ty (kit_tuple t ht), _, rfl, ?_⟩
      rw [show (t == "tuple") = false from beq_eq_false_iff_ne.mpr hnt]
      exact iteT (iteT (k H (Same.refl H)))
    | some os =>
      obtain ⟨a, xs, rfl, ha, hs⟩ := hx
      refine ⟨_, rfl, _, _, _, _, _, rfl, .ty _, ty_tup ha, kit_ty (kit_tuple "tuple" (by decide)), _, rfl, iteF ?_⟩
      refine ⟨_, rfl, _, xs.length, rfl, .inr ⟨_, ha, rfl⟩, _, _, rfl, rfl, _, rfl, ?_⟩
      refine ite2 (fun hgt => ?_) (fun hgt => ?_)
      · have hgt : (4 : Int) < (xs.length : Int) := of_decide_eq_true hgt
        have := k H (Same.refl H)
        have e : chainOkO (some os) = false := by
          show chainOkL os = false
          unfold chainOkL
          rw [decide_eq_false (by rw [← hs.len]; omega)]
          rfl
        rw [e] at this
        exact this
      · have hgt : xs.length ≤ 4 := by
          have : ¬ (4 : Int) < (xs.length : Int) := fun z => hgt (decide_eq_true z)
          omega
        have k' : ∀ H', Same H H' → Q (.bl (os.all stepOkO && limOk (os.filterMap id))) H' := fun H' z => by
          have := k H' z
          have e : chainOkO (some os) = (os.all stepOkO && limOk (os.filterMap id)) := by
            show chainOkL os = _
            unfold chainOkL
            rw [decide_eq_true (by rw [← hs.len]; omega)]
            rfl
          rw [e] at this
          exact this
        refine ⟨_, rfl, a, rfl, ⟨_, ha⟩, fun D nD => ?_⟩
        have sD : Same H (upd H D (.lst [])) := same_upd (Same.refl H) nD
        refine lc_tup (K := K) (a := a) (xs := xs) (fun j H3 => H3 D = some (.lst (((os.take j).map stepOkO).map V.bl)) ∧ Same H H3) ⟨upd_same, sD⟩ (fun j H3 _ ⟨_, s3⟩ => sqt_same s3 ha) ?_ ?_
        · rintro j y H3 hy ⟨hD, s3⟩
          have hj : j < os.length := by
            have := get_lt hy
            rw [hs.len] at this
            exact this
          have ho : os[j]? = some os[j] := List.getElem?_eq_getElem hj
          refine ⟨rfl, ⟨_, rfl, y, _, rfl, (hs.at_ j y _ hy ho).same s3, fun H4 s4 => ⟨_, s4 _ _ hD, ?_, ?_, ?_⟩⟩⟩
          · rw [List.length_map, List.length_map, List.length_take]
            exact small1000 (by have := get_lt hy; omega)
          · rw [upd_same, take_succ_get ho, List.map_append, List.map_append]
            rfl
          · intro q u hq
            have hqD : q ≠ D := fun z => by
              rw [z, nD] at hq
              cases hq
            rw [upd_ne hqD]
            exact s4 q u (s3 q u hq)
        · rintro H3 ⟨hD, s3⟩
          rw [hs.len, List.take_length] at hD
          refine ⟨D, _, rfl, SqL.of hD, ?_⟩
          refine ⟨_, rfl, ?_⟩
          have ea : (os.map stepOkO).all id = os.all stepOkO := by
            rw [List.all_map]
            rfl
          rw [ea]
          cases hall : os.all stepOkO with
          | false =>
            refine iteF ?_
            have := k' H3 s3
            rw [hall] at this
            exact this
          | true =>
            refine iteT ?_
            have e2 := all_somes hall
            refine ⟨_, rfl, a, xs, os.filterMap id, rfl, sqt_same s3 ha, ?_, by omega, somes_ok hall, fun H4 s4 => ?_⟩
            · rw [← e2]
              exact hs.same s3
            · have := k' H4 (Same.trans s3 s4)
              rw [hall] at this
              exact this
end
end FC
set_option Elab.async false
set_option linter.all false
set_option maxRecDepth 100000
set_option maxHeartbeats 4000000
namespace FC
open PySem L2
/-- nothing, or InvalidChain -/
def spCheck (K : PySem.W.Frag) (C : Addr) : Sp := fun vs H Q E => ∃ x oo, vs = [x] ∧ ChainV K H x oo ∧ ∀ H', Same H H' → (chainOkO oo = true → Q .non H') ∧ (chainOkO oo = false → E (.ref C) none H')
section
variable {P : Program} {w : World} {K : PySem.W.Frag} {mg : Str → Option Value} {base : Heap}
theorem scCheck : FnScope ["value"] ["value"] (defScope sCheck) := ⟨rfl, rfl, rfl, by decide +kernel, rfl, by decide +kernel, by decide +kernel⟩
theorem ok_check {f C : Addr} {fd : FuncData} (F : Fun K "check_chain" "check_chain" sCheck f fd) (CC : Cal P w K mg base CX0 4 "is_chain" ["value"] (spIsChain K)) (T : ExcT K mg "InvalidChain" C) :
    FnOk P w K mg base (L2N.CX P w) 5 f fd ["value"] (spCheck K C) := by
  refine okN F scCheck (fun vs H Q E h => ?_) (fun cdv A outer s H vs Q E hr h => ?_)
  · obtain ⟨x, o, rfl, _⟩ := h
    rfl
  · obtain ⟨x, oo, rfl, hx, k⟩ := h
    refine ⟨_, pss_one (ps_if (pt_not (pt_val (pe_cal CC hr pass0 (pa_cons (pv 0) pa_nil)))) (pss_one (L2N.ps_raise rfl (L2N.takes_of rfl rfl rfl rfl) (L2N.pmk_own PySem.F.excBase_ValueError T.q T.gC T.kC (raises_own T.bP T.tP) rfl))) pss_nil), ?_⟩
    refine ⟨_, rfl, x, oo, rfl, hx, fun H1 s1 => ⟨_, rfl, ?_⟩⟩
    cases h : chainOkO oo with
    | false => exact iteT ((k H1 s1).2 h)
    | true => exact iteF ((k H1 s1).1 h)
end
end FC
set_option Elab.async false
set_option linter.all false
set_option maxRecDepth 100000
namespace FC
open PySem L2
/-- at a stands a chain of these steps -/
def ChainAt (K : PySem.W.Frag) (H : Hp) (a : Addr) (cs : List (List V)) : Prop := ∃ xs, SqT K H a xs ∧ Steps K H xs (cs.map some)
theorem ChainAt.v {K : PySem.W.Frag} {H : Hp} {a : Addr} {cs : List (List V)} (h : ChainAt K H a cs) : ChainV K H (.ref a) (some (cs.map some)) := by
  obtain ⟨xs, h1, h2⟩ := h
  exact ⟨a, xs, rfl, h1, h2⟩
theorem ChainAt.same {K : PySem.W.Frag} {H H' : Hp} {a : Addr} {cs : List (List V)} (e : Same H H') (h : ChainAt K H a cs) : ChainAt K H' a cs := by
  obtain ⟨xs, h1, h2⟩ := h
  exact ⟨xs, sqt_same e h1, h2.same e⟩
end FC
set_option Elab.async false
set_option linter.all false
set_option maxRecDepth 100000
set_option maxHeartbeats 4000000
namespace FC
open PySem L2
/-! ### the law's draws -/
def spCellL (K : PySem.W.Frag) : Sp := fun vs H Q _ => ∃ (a : Addr) (ns : List Int) (k : Int), vs = [.ref a, .int k] ∧ SqL K H a (ns.map V.int) ∧ ns.length ≤ 63 ∧ ∀ n H', Same H H' → Q (.int n) H'
def spDrawn : Sp := fun vs H Q _ => ∃ c k : Int, vs = [.int c, .int k] ∧ ∀ r : Int, 0 ≤ r → Q (.int r) H
/-- two numbers that are used up -/
def Dice (H : Hp) (d : Addr) : Prop := ∃ a b : Int, H d = some (.lst [.int a, .int b])
/-- all but d is as it was -/
def SameX (d : Addr) (H H' : Hp) : Prop := ∀ b o, H b = some o → b ≠ d → H' b = some o
def spRoll : Sp := fun vs H Q _ => ∃ (d : Addr) (m : Int), vs = [.ref d, .int m] ∧ Dice H d ∧ 1 ≤ m ∧ m < 1606938044258990275541962092341162602522202993782792835301376 ∧ ∀ (r : Int) H', 0 ≤ r → r < m → Dice H' d → SameX d H H' → Q (.int r) H'
theorem SameX.refl (d : Addr) (H : Hp) : SameX d H H := fun _ _ h _ => h
theorem SameX.trans {d : Addr} {H H1 H2 : Hp} (a : SameX d H H1) (b : SameX d H1 H2) : SameX d H H2 := fun c o h n => b c o (a c o h n) n
theorem SameX.of {d : Addr} {H H' : Hp} (e : Same H H') : SameX d H H' := fun b o h _ => e b o h
theorem mod_nat {x m : Int} {n : Nat} (h : 0 < m) (hm : m.natAbs ≤ 2 ^ n) : (x % m).natAbs < 2 ^ n := by
  have h1 := Int.emod_nonneg x (Int.ne_of_gt h)
  have h2 := Int.emod_lt_of_pos x h
  omega
theorem div_nat {x m : Int} {n : Nat} (h0 : 0 ≤ x) (h : 0 < m) (hx : x.natAbs < 2 ^ n) : (x / m).natAbs < 2 ^ n := by
  have h1 := Int.ediv_nonneg h0 (Int.le_of_lt h)
  have h2 := Int.ediv_le_self m h0
  omega
theorem plus_nat {x : Int} {n : Nat} (hx : x.natAbs < 2 ^ n) : (x + 1).natAbs < 2 ^ (n + 1) := by
  have : 1 ≤ 2 ^ n := Nat.one_le_two_pow
  rw [Nat.pow_succ]
  omega
theorem dp_ints {K : PySem.W.Frag} {H : Hp} : ∀ ns : List Int, DpAll K H (ns.map V.int) (ns.map PyData.int)
  | [] => .nil
  | n :: r => .cons (.int n) (dp_ints r)
section
variable {P : Program} {w : World} {K : PySem.W.Frag} {mg : Str → Option Value} {base : Heap}
theorem scCell : FnScope ["_law_script", "_law_k"] ["_law_script", "_law_k"] (defScope sCell) := ⟨rfl, rfl, rfl, by decide +kernel, rfl, by decide +kernel, by decide +kernel⟩
theorem ok_cell {f : Addr} {fd : FuncData} (F : Fun K "_law_cell" "_law_cell" sCell f fd) (T : Blt mg) : FnOk P w K mg base CX0 1 f fd ["_law_script", "_law_k"] (spCellL K) := by
  refine F.ok scCell (fun vs H Q E h => ?_) (fun cdv A outer s H vs Q E hr h => ?_)
  · obtain ⟨a, ns, k, rfl, _⟩ := h
    rfl
  · obtain ⟨a, ns, k, rfl, ha, hl, q⟩ := h
    have nd := scCell.nd
    refine ⟨_, pss_cons (ps_if (pt_cmpR (op_eqD hr.units) (pv 0) (pe_lst pa_nil) (nomark _)) (pss_one (ps_ret (pe_op op_mul (pv 1) pe_int))) pss_nil)
      (pss_one (ps_ret (pe_op op_add (pe_ix ix_list (pv 0) (pe_op op_mod (pv 1) (pe_callB call_len (by rfl) T.len PySem.boot_len (pa_cons (pv 0) pa_nil))) (fun _ _ => rfl))
        (pe_op op_mul (pe_op op_fdiv (pv 1) (pe_callB call_len (by rfl) T.len PySem.boot_len (pa_cons (pv 0) pa_nil))) pe_int)))), ?_⟩
    refine ⟨_, rfl, by decide, fun p np => ?_⟩
    have s1 := same_upd (o := .lst []) (Same.refl H) np
    have ha1 := Same.seq s1 ha
    refine ⟨.list (ns.map .int), .list [], .lst ha1 (dp_ints ns), .lst (SqL.of upd_same) .nil, PySem.W.ke_shaped_ints ns, by decide, _, rfl, ?_⟩
    cases ns with
    | nil => exact iteT ⟨_, rfl, _, _, rfl, rfl, .inr (by decide), q _ _ s1⟩
    | cons n r =>
      refine iteF ?_
      have hpos : (0 : Int) < (((n :: r).map V.int).length : Nat) := by
        rw [List.length_map, List.length_cons]
        omega
      have hlt : (((n :: r).map V.int).length : Int) < 1073741824 := by
        rw [List.length_map]
        omega
      have h0 := Int.emod_nonneg k (Int.ne_of_gt hpos)
      have h1 := Int.emod_lt_of_pos k hpos
      obtain ⟨j, hj⟩ := Int.eq_ofNat_of_zero_le h0
      have hjl : j < ((n :: r).map V.int).length := by omega
      obtain ⟨v, hv⟩ : ∃ v : Int, ((n :: r).map V.int)[j]? = some (V.int v) := by
        rw [List.length_map] at hjl
        exact ⟨(n :: r)[j], by rw [List.getElem?_map, List.getElem?_eq_getElem hjl]; rfl⟩
      refine ⟨_, rfl, _, rfl, _, rfl, _, ((n :: r).map V.int).length, rfl, .inl ⟨_, ha1, rfl⟩, _, _, rfl, rfl, hpos, ?_⟩
      refine ⟨a, _, _, .int v, rfl, rfl, ha1, ?_, ?_⟩
      · rw [hj]
        exact atI_nat hv
      · refine ⟨_, rfl, _, rfl, _, ((n :: r).map V.int).length, rfl, .inl ⟨_, ha1, rfl⟩, _, _, rfl, rfl, ⟨hpos, hlt⟩, _, _, rfl, rfl, .inr (by decide), _, _, rfl, rfl, q _ _ s1⟩
theorem scDrawn : FnScope ["_law_cell_here", "_law_k", "_law_more"] ["_law_cell_here", "_law_k"] (defScope sDrawn) := ⟨rfl, rfl, rfl, by decide +kernel, rfl, by decide +kernel, by decide +kernel⟩
theorem ok_drawn {f : Addr} {fd : FuncData} (F : Fun K "_law_drawn" "_law_drawn" sDrawn f fd) : FnOk P w K mg base CX0 1 f fd ["_law_cell_here", "_law_k"] spDrawn := by
  refine F.ok scDrawn (fun vs H Q E h => ?_) (fun cdv A outer s H vs Q E hr h => ?_)
  · obtain ⟨c, k, rfl, _⟩ := h
    rfl
  · obtain ⟨c, k, rfl, q⟩ := h
    have nd := scDrawn.nd
    refine ⟨_, pss_cons (ps_set (i := 2) nd rfl (Or.inl rfl) (pe_op op_mod (pe_op op_add (pe_op op_mul (pv 0) pe_int) (pe_op op_mul (pe_op op_add (pv 1) pe_int) pe_int)) pe_int))
      (pss_cons (ps_set (i := 2) nd rfl (Or.inl rfl) (pe_op op_mod (pe_op op_mulW (pv 2) (pv 2)) pe_int))
      (pss_cons (ps_set (i := 2) nd rfl (Or.inl rfl) (pe_op op_mulW (pe_op op_mulW (pe_op op_add (pe_op op_mod (pv 2) pe_int) pe_int) (pe_op op_add (pe_op op_fdivW (pv 2) pe_int) pe_int)) (pv 2)))
      (pss_one (ps_ret (pe_op op_mod (pv 2) pe_int))))), ?_⟩
    refine ⟨_, rfl, _, _, rfl, rfl, .inr (by decide), _, rfl, _, _, rfl, rfl, _, _, rfl, rfl, .inr (by decide), _, _, rfl, rfl, _, _, rfl, rfl, (by decide : (0 : Int) < 340282366920938463463374607431768211507), ?_⟩
    have bx : ((c * 6364136223846793005 + (k + 1) * 1442695040888963407) % 340282366920938463463374607431768211507).natAbs < 2 ^ 129 := mod_nat (by decide) (by decide)
    refine ⟨_, rfl, _, rfl, _, _, rfl, rfl, wide_mul bx bx (by decide) (by decide) (by decide), _, _, rfl, rfl, (by decide : (0 : Int) < 340282366920938463463374607431768211297), ?_⟩
    have c1 := Int.emod_nonneg ((c * 6364136223846793005 + (k + 1) * 1442695040888963407) % 340282366920938463463374607431768211507 * ((c * 6364136223846793005 + (k + 1) * 1442695040888963407) % 340282366920938463463374607431768211507)) (by decide : (340282366920938463463374607431768211297 : Int) ≠ 0)
    have by_ : ((c * 6364136223846793005 + (k + 1) * 1442695040888963407) % 340282366920938463463374607431768211507 * ((c * 6364136223846793005 + (k + 1) * 1442695040888963407) % 340282366920938463463374607431768211507) % 340282366920938463463374607431768211297).natAbs < 2 ^ 129 := mod_nat (by decide) (by decide)
    have bu := plus_nat (mod_nat (x := (c * 6364136223846793005 + (k + 1) * 1442695040888963407) % 340282366920938463463374607431768211507 * ((c * 6364136223846793005 + (k + 1) * 1442695040888963407) % 340282366920938463463374607431768211507) % 340282366920938463463374607431768211297) (m := 18446744073709551557) (n := 64) (by decide) (by decide))
    have bv := plus_nat (div_nat (m := 18446744073709551557) c1 (by decide) by_)
    refine ⟨_, rfl, _, _, rfl, rfl, (by decide : (0 : Int) < 18446744073709551557), _, _, rfl, rfl, _, rfl, _, _, rfl, rfl, wide_div (b := 64) (by decide) (by decide) (by decide) (by decide), _, _, rfl, rfl, _, _, rfl, rfl, wide_mul bu bv (by decide) (by decide) (by decide), ?_⟩
    have bw := wide_lt bu bv
    refine ⟨_, rfl, _, _, rfl, rfl, wide_mul bw by_ (by decide) (by decide) (by decide), ?_⟩
    exact ⟨_, rfl, _, _, rfl, rfl, (by decide : (0 : Int) < 340282366920938463463374607431768211507), q _ (Int.emod_nonneg _ (by decide))⟩
end
end FC
set_option Elab.async false
set_option linter.all false
set_option maxRecDepth 100000
set_option maxHeartbeats 1000000
/-! Steps and tuples of numbers in the heap. -/
namespace FC
open PySem L2
structure Blt2 (mg : Str → Option Value) : Prop where
  enumerate : mg "enumerate" = none
  list : mg "list" = none
theorem sql_same {K : PySem.W.Frag} {H H' : Hp} {a : Addr} {xs : List V} (e : Same H H') (h : SqL K H a xs) : SqL K H' a xs := by
  rcases h with (h | ⟨o, h⟩) | h
  · exact .inl (.inl (e _ _ h))
  · exact .inl (.inr ⟨o, e _ _ h⟩)
  · exact .inr h
/-- at c stands a tuple of these steps -/
def StpsAt (K : PySem.W.Frag) (H : Hp) (c : Addr) (ps : List Stp) : Prop := ∃ xs : List V, SqT K H c xs ∧ xs.length = ps.length ∧ ∀ (i : Nat) (x : V) (p : Stp), xs[i]? = some x → ps[i]? = some p → ∃ b, x = .ref b ∧ SqT K H b p.v
def TupsAt (H : Hp) (qs : List Addr) (gs : List (List Int)) : Prop := qs.length = gs.length ∧ ∀ (i : Nat) (q : Addr) (g : List Int), qs[i]? = some q → gs[i]? = some g → H q = some (.tup (g.map V.int))
end FC
set_option Elab.async false
set_option linter.all false
set_option maxRecDepth 100000
set_option maxHeartbeats 4000000
/-! Numbers through a step, a number through a chain, a row through a chain. -/
namespace FC
open PySem L2
/-- a tuple stays when a list changes -/
theorem sqt_lst {K : PySem.W.Frag} {H : Hp} {a o : Addr} {ys xs zs : List V} (ho : H o = some (.lst xs)) (h : SqT K H a ys) : SqT K (upd H o (.lst zs)) a ys := by
  rcases h with (h | ⟨q, h⟩) | h
  · refine .inl (.inl ?_)
    rw [upd_ne (fun z => by rw [z, ho] at h; cases h)]
    exact h
  · refine .inl (.inr ⟨q, ?_⟩)
    rw [upd_ne (fun z => by rw [z, ho] at h; cases h)]
    exact h
  · exact .inr h
/-- the table of the givers -/
structure GivT (P : Program) (w : World) (K : PySem.W.Frag) (mg : Str → Option Value) (base : Heap) (d : Addr) : Prop where
  kd : ∃ es n, KDict K w d es n
  at_ : ∀ p : Stp, ∃ f, PySem.W.nsIn K d p.name = some (some (.ref f)) ∧ Held P w K mg base 1 f (spGive K p.name)
def spPassT (K : PySem.W.Frag) : Sp := fun vs H Q _ => ∃ (b h l : Addr) (p : Stp) (pre xs : List Int), vs = [.ref b, .ref h, .ref l] ∧ p.ok ∧ SqT K H b p.v ∧ HeldAt K H h (p.held pre) ∧ SqL K H l (xs.map V.int) ∧ xs.length ≤ 1000 ∧
  ∀ (t o h' : Addr) H', Same H H' → SqT K H' t [.ref o, .ref h'] → H o = none → H' o = some (.lst ((p.outs pre xs).map V.int)) → HeldAt K H' h' (p.held (pre ++ xs)) → Q (.ref t) H'
section
variable {P : Program} {w : World} {K : PySem.W.Frag} {mg : Str → Option Value} {base : Heap}
theorem scPassT : FnScope ["step", "held", "numbers", "giver", "out", "now", "number", "given"] ["step", "held", "numbers"] (defScope sPassT) := ⟨rfl, rfl, rfl, by decide +kernel, rfl, by decide +kernel, by decide +kernel⟩
theorem ok_passT {f dG : Addr} {fd : FuncData} (F : Fun K "pass_through" "pass_through" sPassT f fd) (mG : mg "GIVERS" = some (.ref dG)) (G : GivT P w K mg base dG) : FnOk P w K mg base CX0 2 f fd ["step", "held", "numbers"] (spPassT K) := by
  refine F.ok scPassT (fun vs H Q E h => ?_) (fun cdv A outer s H vs Q E hr h => ?_)
  · obtain ⟨b, h, l, p, pre, xs, rfl, _⟩ := h
    rfl
  · obtain ⟨b, h, l, p, pre, xs, rfl, hok, hb, hh, hl, hx, k⟩ := h
    have nd := scPassT.nd
    refine ⟨_, pss_cons (ps_set (i := 3) nd rfl (Or.inl rfl) (pe_ix ix_kdict (pe_glob (v := .ref dG) rfl mG rfl) (pe_ix (r := rIxT K) ix_tup (pv 0) pe_int (fun _ _ => rfl)) (fun _ _ => rfl)))
      (pss_cons (ps_set (i := 4) nd rfl (Or.inl rfl) (pe_lst pa_nil))
      (pss_cons (ps_set (i := 5) nd rfl (Or.inl rfl) (pv 1))
      (pss_cons (ps_for PassesOwn.never rfl (pi_list (pv 2)) (pg_name (i := 6) nd rfl (Or.inl rfl))
        (pss_cons (ps_asg (pe_callHd (i := 3) hr rfl (Or.inl rfl) (pa_cons (pv 0) (pa_cons (pv 5) (pa_cons (pv 6) pa_nil)))) (pg_tup rfl (pgs_cons (pg_name (i := 7) nd rfl (Or.inl rfl)) (pgs_cons (pg_name (i := 5) nd rfl (Or.inl rfl)) pgs_nil))))
        (pss_one (ps_expr (pe_bm PySem.F.plainAttrs_list PySem.F.slot_list_extend PySem.F.type_list_extend mt_extT (pv 4) (pa_cons (pv 7) pa_nil))))))
      (pss_one (ps_ret (pe_tup (pa_cons (pv 4) (pa_cons (pv 5) pa_nil)))))))), ?_⟩
    obtain ⟨es, nn, kd⟩ := G.kd
    obtain ⟨fg, gf, gh⟩ := G.at_ p
    refine ⟨_, rfl, b, _, 0, .str p.name, rfl, rfl, hb, atI_nat (j := 0) rfl, dG, p.name, .ref fg, rfl, rfl, ⟨es, nn, _, kd.at_, kd.lit, gf, rfl⟩, ?_⟩
    refine ⟨(by show 0 ≤ sizeLine; omega), fun o no => ⟨_, rfl, ?_⟩⟩
    have s0 := same_upd (o := .lst []) (Same.refl H) no
    refine ⟨_, rfl, l, rfl, ⟨_, sql_same s0 hl⟩, for_list (K := K) (a := l) (xs := xs.map V.int) (fun i σ H2 => ∃ (h2 : Addr) (v6 v7 : Option V), σ = [some (.ref b), some (.ref h), some (.ref l), some (.ref fg), some (.ref o), some (.ref h2), v6, v7] ∧ Same H H2 ∧
        H2 o = some (.lst ((p.outs pre (xs.take i)).map V.int)) ∧ HeldAt K H2 h2 (p.held (pre ++ xs.take i)))
      ⟨h, none, none, rfl, s0, upd_same, by rw [List.take_zero, List.append_nil]; exact hh.same s0⟩ (fun i σ H2 _ ⟨_, _, _, _, s2, _⟩ => sql_same s2 hl) ?_ ?_⟩
    · rintro i v σ H2 hi ⟨h2, v6, v7, rfl, s2, eo, eh⟩
      obtain ⟨x, hx', rfl⟩ : ∃ x, xs[i]? = some x ∧ v = .int x := by
        rw [List.getElem?_map] at hi
        obtain ⟨x, h1, h2⟩ := Option.map_eq_some_iff.mp hi
        exact ⟨x, h1, h2.symm⟩
      have hil := get_lt hx'
      have et : xs.take (i + 1) = xs.take i ++ [x] := take_succ_get hx'
      refine ⟨fg, _, rfl, gh, _, rfl, _, rfl, _, rfl, b, h2, x, p, pre ++ xs.take i, rfl, rfl, hok, sqt_same s2 hb, eh, fun t g h3 H3 s3 ht hg h3h => ?_⟩
      have eo3 := s3 _ _ eo
      refine ⟨t, _, rfl, ht, rfl, _, _, rfl, _, _, rfl, rfl, ?_⟩
      have hlen : ((p.outs pre (xs.take i)).map V.int).length + ((p.out (pre ++ xs.take i) x).map V.int).length ≤ sizeLine := by
        have h1 := p.outs_len pre (xs.take i)
        have h2 := p.out_len (pre ++ xs.take i) x
        have h3 : (xs.take i).length ≤ 1000 := by rw [List.length_take]; omega
        have hsl : 4000 < sizeLine := by decide
        rw [List.length_map, List.length_map]
        omega
      refine ⟨_, rfl, .inl ⟨rfl, _, SqL.of eo3⟩, _, rfl, o, g, _, _, rfl, rfl, eo3, hg, hlen, h3, _, _, rfl, ?_, ?_, ?_⟩
      · intro b1 o1 hb1
        rw [upd_ne (ne_of_none hb1 no)]
        exact s3 _ _ (s2 _ _ hb1)
      · rw [upd_same, et, outs_snoc, List.map_append]
      · have s4 : HeldAt K H3 h3 (p.held (pre ++ xs.take (i + 1))) := by
          rw [et, ← List.append_assoc]
          exact h3h
        exact sqt_lst eo3 s4
    · rintro σ H2 ⟨h2, v6, v7, rfl, s2, eo, eh⟩
      rw [List.length_map, List.take_length] at eo eh
      refine ⟨_, rfl, _, rfl, (by show 2 ≤ sizeLine; decide), fun t nt => ?_⟩
      have s3 := same_upd (o := .tup [V.ref o, .ref h2]) (Same.refl H2) nt
      exact k t o h2 _ (Same.trans s2 s3) sqt_new no (s3 _ _ eo) (eh.same s3)
/-- the states of a chain's steps behind a row, at a -/
def StateAt (K : PySem.W.Frag) (H : Hp) (a : Addr) (ps : List Stp) (row : List Int) : Prop := ∃ xs : List V, SqT K H a xs ∧ xs.length = ps.length ∧ ∀ (i : Nat) (x : V) (p : Stp), xs[i]? = some x → ps[i]? = some p → ∃ b, x = .ref b ∧ HeldAt K H b (p.held (runM (ps.take i) row))
theorem StateAt.same {K : PySem.W.Frag} {H H' : Hp} {a : Addr} {ps : List Stp} {row : List Int} (h : StateAt K H a ps row) (s : Same H H') : StateAt K H' a ps row := by
  obtain ⟨xs, h1, h2, h3⟩ := h
  refine ⟨xs, sqt_same s h1, h2, fun i x p hx hp => ?_⟩
  obtain ⟨b, e, hb⟩ := h3 i x p hx hp
  exact ⟨b, e, hb.same s⟩
theorem stps_same {K : PySem.W.Frag} {H H' : Hp} {c : Addr} {ps : List Stp} (h : StpsAt K H c ps) (s : Same H H') : StpsAt K H' c ps := by
  obtain ⟨xs, x1, x2, x3⟩ := h
  refine ⟨xs, sqt_same s x1, x2, fun i x p hx hp => ?_⟩
  obtain ⟨b, h1, h2⟩ := x3 i x p hx hp
  exact ⟨b, h1, sqt_same s h2⟩
def spStartP (K : PySem.W.Frag) : Sp := fun vs H Q _ => ∃ (c : Addr) (ps : List Stp), vs = [.ref c] ∧ StpsAt K H c ps ∧ ps.length ≤ 10 ∧ ∀ (t : Addr) H', Same H H' → StateAt K H' t ps [] → Q (.ref t) H'
theorem run_nil_row (cs : List Stp) : runM cs [] = [] := by
  have := run_len cs []
  rw [List.length_nil, Nat.mul_zero] at this
  exact List.eq_nil_of_length_eq_zero (by omega)
theorem rep_flat {n : Nat} {v : V} : (List.replicate n [v]).flatten = List.replicate n v := by
  induction n with
  | zero => rfl
  | succ n ih => rw [List.replicate_succ, List.flatten_cons, ih]; rfl
theorem scStartP : FnScope ["chain"] ["chain"] (defScope sStartP) := ⟨rfl, rfl, rfl, by decide +kernel, rfl, by decide +kernel, by decide +kernel⟩
theorem ok_startP {f nh : Addr} {fd : FuncData} (F : Fun K "start" "start" sStartP f fd) (T : Blt mg) (mN : mg "NOTHING_HELD" = some (.ref nh)) (hN : ∀ H, SqT K H nh [.int 0, .int 0]) : FnOk P w K mg base CX0 1 f fd ["chain"] (spStartP K) := by
  refine F.ok scStartP (fun vs H Q E h => ?_) (fun cdv A outer s H vs Q E hr h => ?_)
  · obtain ⟨c, ps, rfl, _⟩ := h
    rfl
  · obtain ⟨c, ps, rfl, hc, hl, k⟩ := h
    have nd := scStartP.nd
    refine ⟨_, pss_one (ps_ret (pe_op op_repA (pe_tup (pa_cons (pe_glob (v := .ref nh) rfl mN rfl) pa_nil)) (pe_callB call_len (by rfl) T.len PySem.boot_len (pa_cons (pv 0) pa_nil)))), ?_⟩
    obtain ⟨xs, x1, x2, x3⟩ := hc
    refine ⟨(by show 1 ≤ sizeLine; decide), fun q nq => ⟨_, rfl, .ref c, xs.length, rfl, ?_, ?_⟩⟩
    · exact .inr ⟨_, sqt_same (same_upd (Same.refl H) nq) x1, rfl⟩
    have s1 := same_upd (o := .tup [V.ref nh]) (Same.refl H) nq
    have fin : ∀ (t : Addr) H', Same H H' → SqT K H' t (List.replicate ps.length (V.ref nh)) → Q (.ref t) H' := fun t H' s2 ht => k t H' s2 ⟨_, ht, by rw [List.length_replicate], fun i x p hx hp => by
      have hm := List.mem_of_getElem? hx
      rw [List.mem_replicate] at hm
      refine ⟨nh, hm.2, ?_⟩
      rw [run_nil_row]
      unfold HeldAt
      rw [held_nil]
      exact hN H'⟩
    refine ⟨q, (xs.length : Int), [V.ref nh], rfl, rfl, sqt_new, by simp, by omega, by omega, (by show 1 ≤ 1000; decide), fun e1 => fin q _ s1 ?_, fun _ t nt => fin t _ (same_upd s1 nt) ?_⟩
    · have e1 : xs.length = 1 := by omega
      rw [← x2, e1]
      exact sqt_new
    · rw [Int.toNat_natCast, rep_flat, x2]
      exact sqt_new
/-- a number through a chain -/
def spAdv (K : PySem.W.Frag) : Sp := fun vs H Q _ => ∃ (c a : Addr) (x : Int) (ps : List Stp) (row : List Int), vs = [.ref c, .ref a, .int x] ∧ StpsAt K H c ps ∧ (∀ p ∈ ps, p.ok) ∧ ps.length ≤ 4 ∧ StateAt K H a ps row ∧
  ∀ (t g a' : Addr) H', Same H H' → SqT K H' t [.ref g, .ref a'] → SqT K H' g ((newM ps row [x]).map V.int) → StateAt K H' a' ps (row ++ [x]) → Q (.ref t) H'
abbrev NAv : List Str := ["chain", "state", "number", "numbers", "state_behind", "step", "held", "held_behind"]
theorem scAdvance : FnScope NAv ["chain", "state", "number"] (defScope sAdvance) := ⟨rfl, rfl, rfl, by decide +kernel, rfl, by decide +kernel, by decide +kernel⟩
theorem ok_advance {f : Addr} {fd : FuncData} (F : Fun K "advance" "advance" sAdvance f fd) (T : Blt mg) (CP : Cal P w K mg base CX0 2 "pass_through" ["step", "held", "numbers"] (spPassT K)) : FnOk P w K mg base CX0 3 f fd ["chain", "state", "number"] (spAdv K) := by
  refine F.ok scAdvance (fun vs H Q E h => ?_) (fun cdv A outer s H vs Q E hr h => ?_)
  · obtain ⟨c, a, x, ps, row, rfl, _⟩ := h
    rfl
  · obtain ⟨c, a, x, ps, row, rfl, hc, hok, hl, ha, k⟩ := h
    have nd := scAdvance.nd
    refine ⟨_, pss_cons (ps_set (i := 3) nd rfl (Or.inl rfl) (pe_lst (pa_cons (pv 2) pa_nil)))
      (pss_cons (ps_set (i := 4) nd rfl (Or.inl rfl) (pe_lst pa_nil))
      (pss_cons (ps_for PassesOwn.never rfl (RZ.pi_zipA (by rfl) T.zip (pa_cons (pv 0) (pa_cons (pv 1) pa_nil))) (pg_tup rfl (pgs_cons (pg_name (i := 5) nd rfl (Or.inl rfl)) (pgs_cons (pg_name (i := 6) nd rfl (Or.inl rfl)) pgs_nil)))
        (pss_cons (ps_asg (pe_cal CP hr pass0 (pa_cons (pv 5) (pa_cons (pv 6) (pa_cons (pv 3) pa_nil)))) (pg_tup rfl (pgs_cons (pg_name (i := 3) nd rfl (Or.inl rfl)) (pgs_cons (pg_name (i := 7) nd rfl (Or.inl rfl)) pgs_nil))))
        (pss_one (ps_expr (pe_bm PySem.F.plainAttrs_list PySem.F.slot_list_append PySem.F.type_list_append mt_append (pv 4) (pa_cons (pv 7) pa_nil))))))
      (pss_one (ps_ret (pe_tup (pa_cons (pe_callTy call_tuple_of (by rfl) T.tuple (by decide +kernel) (pa_cons (pv 3) pa_nil)) (pa_cons (pe_callTy call_tuple_of (by rfl) T.tuple (by decide +kernel) (pa_cons (pv 4) pa_nil)) pa_nil))))))), ?_⟩
    obtain ⟨cs, c1, c2, c3⟩ := hc
    obtain ⟨ss, a1, a2, a3⟩ := ha
    refine ⟨_, rfl, (by show 1 ≤ sizeLine; decide), fun l0 n0 => ⟨(by show 0 ≤ sizeLine; decide), fun o no => ?_⟩⟩
    have s0 := same_upd (o := .lst [V.int x]) (Same.refl H) n0
    have e0 : upd H l0 (.lst [V.int x]) l0 = some (.lst [V.int x]) := upd_same
    generalize upd H l0 (.lst [V.int x]) = H1 at s0 e0 no ⊢
    have s1 := same_upd (o := .lst []) s0 no
    have e1 : upd H1 o (.lst []) l0 = some (.lst [V.int x]) := (upd_ne (ne_of_none e0 no)).trans e0
    have eo : upd H1 o (.lst []) o = some (.lst []) := upd_same
    have noH : H o = none := by
      cases q : H o with
      | none => rfl
      | some v => rw [s0 _ _ q] at no; cases no
    generalize upd H1 o (.lst []) = H2 at s1 e1 eo ⊢
    refine ⟨_, rfl, _, rfl, c, a, cs, ss, rfl, .inr ⟨sqt_same s1 c1, sqt_same s1 a1, RZ.for_zipT (K := K) (xs := cs) (ys := ss) (by rw [c2, a2])
      (fun i σ H3 => ∃ (l : Addr) (bs : List V) (v5 v6 v7 : Option V), σ = [some (.ref c), some (.ref a), some (.int x), some (.ref l), some (.ref o), v5, v6, v7] ∧ Same H H3 ∧ H3 l = some (.lst ((newM (ps.take i) row [x]).map V.int)) ∧ H3 o = some (.lst bs) ∧ l ≠ o ∧ bs.length = i ∧
        ∀ (j : Nat) (y : V) (p : Stp), bs[j]? = some y → ps[j]? = some p → ∃ b, y = .ref b ∧ HeldAt K H3 b (p.held (runM (ps.take j) (row ++ [x]))))
      ⟨l0, [], none, none, none, rfl, s1, e1, eo, ne_of_none e0 (by assumption), rfl, fun j y p h _ => by simp at h⟩ (fun i σ H3 ⟨_, _, _, _, _, _, s3, _⟩ => ⟨sqt_same s3 c1, sqt_same s3 a1⟩) ?_ ?_⟩⟩
    · rintro i y z T σ H3 hy hz ⟨l, bs, v5, v6, v7, rfl, s3, el, eo3, lo, hb, hat⟩ hT
      have hiy := get_lt hy
      obtain ⟨p, hp⟩ : ∃ p, ps[i]? = some p := ⟨ps[i]'(by omega), List.getElem?_eq_getElem (by omega)⟩
      obtain ⟨b, rfl, hbv⟩ := c3 i y p hy hp
      obtain ⟨hd, rfl, hhd⟩ := a3 i z p hz hp
      have et : ps.take (i + 1) = ps.take i ++ [p] := take_succ_get hp
      have s4 := same_upd (o := .tup [V.ref b, .ref hd]) s3 hT
      have el4 : upd H3 T (.tup [V.ref b, .ref hd]) l = _ := (upd_ne (ne_of_none el hT)).trans el
      have eo4 : upd H3 T (.tup [V.ref b, .ref hd]) o = _ := (upd_ne (ne_of_none eo3 hT)).trans eo3
      have s34 := same_upd (o := .tup [V.ref b, .ref hd]) (Same.refl H3) hT
      have hnl : (newM (ps.take i) row [x]).length ≤ 1000 := by
        have h1 := newM_len (ps.take i) row [x]
        have h2 : (ps.take i).length ≤ 4 := by rw [List.length_take]; omega
        have h3 : 2 ^ (ps.take i).length ≤ 2 ^ 4 := Nat.pow_le_pow_right (by decide) h2
        rw [List.length_singleton] at h1
        omega
      refine ⟨T, [.ref b, .ref hd], rfl, SqT.of upd_same, rfl, _, _, rfl, _, _, rfl, rfl, ?_⟩
      generalize upd H3 T (.tup [V.ref b, .ref hd]) = H4 at s4 el4 eo4 s34 ⊢
      refine ⟨_, rfl, _, rfl, _, rfl, b, hd, l, p, runM (ps.take i) row, newM (ps.take i) row [x], rfl, hok p (List.mem_of_getElem? hp), sqt_same s4 hbv, hhd.same s4, SqL.of el4, hnl, fun t o2 h2 H5 s5 ht no2 eo2 hh2 => ?_⟩
      refine ⟨t, _, rfl, ht, rfl, _, _, rfl, _, _, rfl, rfl, ?_⟩
      have eo5 := s5 _ _ eo4
      have oo : o2 ≠ o := fun w => by rw [w, eo4] at no2; cases no2
      refine ⟨_, rfl, .inl ⟨rfl, _, SqL.of eo5⟩, _, rfl, o, bs, .ref h2, rfl, rfl, eo5, small1000 (by omega), ?_⟩
      refine ⟨o2, bs ++ [.ref h2], _, _, _, rfl, ?_, ?_, upd_same, oo, by rw [List.length_append, hb]; rfl, ?_⟩
      · intro b1 o1 hb1
        rw [upd_ne (ne_of_none hb1 noH)]
        exact s5 _ _ (s4 _ _ hb1)
      · rw [upd_ne oo, et, newM_append]
        exact eo2
      · intro j q p' hq hp'
        by_cases hj : j < bs.length
        · rw [List.getElem?_append_left hj] at hq
          obtain ⟨c', e1, e2⟩ := hat j q p' hq hp'
          exact ⟨c', e1, sqt_lst eo5 ((e2.same s34).same s5)⟩
        · have hj2 := get_lt hq
          rw [List.length_append, List.length_singleton] at hj2
          have ej : j = bs.length := by omega
          subst ej
          rw [List.getElem?_append_right (Nat.le_refl _), Nat.sub_self] at hq
          have hq : V.ref h2 = q := Option.some.inj hq
          subst hq
          rw [hb] at hp' ⊢
          rw [hp] at hp'
          have hp' : p = p' := Option.some.inj hp'
          subst hp'
          refine ⟨h2, rfl, sqt_lst eo5 ?_⟩
          rw [run_snoc]
          exact hh2
    · rintro σ H3 ⟨l, bs, v5, v6, v7, rfl, s3, el, eo3, lo, hb, hat⟩
      rw [c2, List.take_length] at el
      refine ⟨_, rfl, l, _, rfl, .inl ⟨SqL.of el, fun g ng => ⟨_, rfl, o, bs, rfl, .inl ⟨SqL.of ((upd_ne (ne_of_none eo3 ng)).trans eo3), fun q nq => ⟨(by show 2 ≤ sizeLine; decide), fun t nt => ?_⟩⟩⟩⟩⟩
      have s4 := same_upd (o := .tup ((newM ps row [x]).map V.int)) (Same.refl H3) ng
      have s5 := same_upd (o := .tup bs) (Same.refl _) nq
      have s6 := same_upd (o := .tup [V.ref g, .ref q]) (Same.refl _) nt
      refine k t g q _ (Same.trans (Same.trans (Same.trans s3 s4) s5) s6) sqt_new (sqt_same s6 (sqt_same s5 sqt_new)) ⟨bs, sqt_same s6 sqt_new, by rw [hb, c2], fun j y p hy hp => ?_⟩
      obtain ⟨b, e1, e2⟩ := hat j y p hy hp
      exact ⟨b, e1, ((e2.same s4).same s5).same s6⟩
end
end FC
set_option Elab.async false
set_option linter.all false
set_option maxRecDepth 100000
set_option maxHeartbeats 4000000
/-! All but some places stands. -/
namespace FC
open PySem PySem.Spec PyProof.Rows L2
/-- all but the places of L is as it was -/
def Frm (L : List Addr) (H H' : Hp) : Prop := ∀ b o, H b = some o → b ∉ L → H' b = some o
theorem Frm.refl (L : List Addr) (H : Hp) : Frm L H H := fun _ _ h _ => h
theorem Frm.same {L : List Addr} {H H' : Hp} (s : Same H H') : Frm L H H' := fun b o h _ => s b o h
theorem Frm.trans {L : List Addr} {H H1 H2 : Hp} (x : Frm L H H1) (y : Frm L H1 H2) : Frm L H H2 := fun b o h n => y b o (x b o h n) n
theorem Frm.upd {L : List Addr} {H H1 : Hp} {p : Addr} {o : HO} (x : Frm L H H1) (hp : p ∈ L) : Frm L H (upd H1 p o) := fun b ob h n => by
  rw [upd_ne (fun z => n (by rw [z]; exact hp))]
  exact x b ob h n
theorem sqt_frm {K : PySem.W.Frag} {L : List Addr} {H H' : Hp} {a : Addr} {xs : List V} (s : Frm L H H') (hn : ∀ b ∈ L, ∀ ys, H b ≠ some (.tup ys) ∧ ∀ o, H b ≠ some (.frz o (.tup ys))) (h : SqT K H a xs) : SqT K H' a xs := by
  rcases h with (h | ⟨o, h⟩) | h
  · exact .inl (.inl (s _ _ h (fun z => (hn _ z xs).1 h)))
  · exact .inl (.inr ⟨o, s _ _ h (fun z => (hn _ z xs).2 o h)⟩)
  · exact .inr h
theorem state_frm {K : PySem.W.Frag} {L : List Addr} {H H' : Hp} {a : Addr} {ps : List Stp} {row : List Int} (s : Frm L H H') (hn : ∀ b ∈ L, ∀ ys, H b ≠ some (.tup ys) ∧ ∀ o, H b ≠ some (.frz o (.tup ys))) (h : StateAt K H a ps row) : StateAt K H' a ps row := by
  obtain ⟨xs, h1, h2, h3⟩ := h
  refine ⟨xs, sqt_frm s hn h1, h2, fun i x p hx hp => ?_⟩
  obtain ⟨b, e, hb⟩ := h3 i x p hx hp
  exact ⟨b, e, sqt_frm s hn hb⟩
theorem stps_frm {K : PySem.W.Frag} {L : List Addr} {H H' : Hp} {c : Addr} {ps : List Stp} (s : Frm L H H') (hn : ∀ b ∈ L, ∀ ys, H b ≠ some (.tup ys) ∧ ∀ o, H b ≠ some (.frz o (.tup ys))) (h : StpsAt K H c ps) : StpsAt K H' c ps := by
  obtain ⟨xs, x1, x2, x3⟩ := h
  refine ⟨xs, sqt_frm s hn x1, x2, fun i x p hx hp => ?_⟩
  obtain ⟨b, h1, h2⟩ := x3 i x p hx hp
  exact ⟨b, h1, sqt_frm s hn h2⟩
theorem get_snoc {α : Type} {l : List α} {x y : α} {i : Nat} (h : (l ++ [x])[i]? = some y) : (i < l.length ∧ l[i]? = some y) ∨ (i = l.length ∧ x = y) := by
  by_cases hi : i < l.length
  · rw [List.getElem?_append_left hi] at h
    exact .inl ⟨hi, h⟩
  · have h2 := get_lt h
    rw [List.length_append, List.length_singleton] at h2
    have e : i = l.length := by omega
    subst e
    rw [List.getElem?_append_right (Nat.le_refl _), Nat.sub_self] at h
    exact .inr ⟨rfl, Option.some.inj h⟩
end FC
set_option Elab.async false
set_option linter.all false
set_option maxRecDepth 100000
set_option maxHeartbeats 4000000
/-! Vectors in the heap; walks of one that is held still meanwhile. -/
namespace FC
open PySem PySem.Spec PyProof.Rows L2
abbrev kvs (v : Vec) : List (Key × V) := v.map fun p => ((Sum.inl p.1 : Key), V.int p.2)
theorem vget_nil (k : Int) : vget [] k = none := rfl
theorem vget_cons (p : Int × Int) (v : Vec) (k : Int) : vget (p :: v) k = if p.1 = k then some p.2 else vget v k := by
  obtain ⟨a, b⟩ := p
  show List.lookup k ((a, b) :: v) = _
  rw [List.lookup_cons]
  by_cases e : a = k
  · subst e
    rw [beq_self_eq_true, if_pos rfl]
  · have e2 : (k == a) = false := beq_eq_false_iff_ne.mpr (fun z => e z.symm)
    rw [e2, if_neg e]
    rfl
theorem inl_eq {a b : Int} : ((Sum.inl a : Key) = Sum.inl b) = (a = b) := propext ⟨fun h => Sum.inl.inj h, fun h => by rw [h]⟩
theorem valV_kvs (v : Vec) (k : Int) : valV (kvs v) (.inl k) = (vget v k).map V.int := by
  induction v with
  | nil => rfl
  | cons p r ih =>
    rw [vget_cons]
    show valV (((Sum.inl p.1 : Key), V.int p.2) :: kvs r) (.inl k) = _
    by_cases e : p.1 = k
    · rw [valV_pos (by rw [e]), if_pos e]
      rfl
    · rw [valV_neg (fun z => e (Sum.inl.inj z)), if_neg e, ih]
theorem any_kvs (v : Vec) (k : Int) : ((kvs v).any fun kv => decide (kv.1 = Sum.inl k)) = v.any fun p => decide (p.1 = k) := by
  rw [List.any_map]
  congr 1
  funext p
  show decide ((Sum.inl p.1 : Key) = Sum.inl k) = decide (p.1 = k)
  by_cases e : p.1 = k
  · rw [decide_eq_true e, decide_eq_true (by rw [e])]
  · rw [decide_eq_false e, decide_eq_false (fun z => e (Sum.inl.inj z))]
theorem putK_kvs (v : Vec) (k x : Int) : putK (kvs v) (.inl k) (.int x) = kvs (vput v k x) := by
  unfold putK vput
  rw [any_kvs]
  by_cases h : (v.any fun p => decide (p.1 = k)) = true
  · rw [if_pos h, if_pos h]
    show (kvs v).map _ = (v.map _).map _
    rw [List.map_map, List.map_map]
    refine List.map_congr_left fun p _ => ?_
    show (if (Sum.inl p.1 : Key) = Sum.inl k then ((Sum.inl p.1 : Key), V.int x) else (Sum.inl p.1, V.int p.2)) = (Sum.inl (if p.1 = k then (p.1, x) else p).1, V.int (if p.1 = k then (p.1, x) else p).2)
    by_cases e : p.1 = k
    · rw [if_pos (by rw [e]), if_pos e]
    · rw [if_neg (fun z => e (Sum.inl.inj z)), if_neg e]
  · rw [if_neg h, if_neg h]
    exact (List.map_append (f := fun p : Int × Int => ((Sum.inl p.1 : Key), V.int p.2)) (l₁ := v) (l₂ := [(k, x)])).symm
theorem dropK_kvs (v : Vec) (k : Int) : dropK (kvs v) (.inl k) = kvs (v.filter fun p => !decide (p.1 = k)) := by
  unfold dropK
  show (v.map _).filter _ = (v.filter _).map _
  rw [List.filter_map]
  congr 1
  refine List.filter_congr fun p _ => ?_
  show decide ((Sum.inl p.1 : Key) ≠ Sum.inl k) = !decide (p.1 = k)
  by_cases e : p.1 = k
  · rw [e]; simp
  · have : ¬ (Sum.inl p.1 : Key) = Sum.inl k := fun z => e (Sum.inl.inj z)
    simp [e, this]
/-! ### distinct keys -/
abbrev Dst (v : Vec) : Prop := (v.map (·.1)).Nodup
theorem any_mem {v : Vec} {k : Int} : (v.any fun p => decide (p.1 = k)) = true ↔ k ∈ v.map (·.1) := by
  rw [List.any_eq_true, List.mem_map]
  exact ⟨fun ⟨p, h1, h2⟩ => ⟨p, h1, of_decide_eq_true h2⟩, fun ⟨p, h1, h2⟩ => ⟨p, h1, decide_eq_true h2⟩⟩
theorem vput_keys (v : Vec) (k x : Int) : (vput v k x).map (·.1) = if (v.any fun p => decide (p.1 = k)) = true then v.map (·.1) else v.map (·.1) ++ [k] := by
  unfold vput
  by_cases h : (v.any fun p => decide (p.1 = k)) = true
  · rw [if_pos h, if_pos h, List.map_map]
    refine List.map_congr_left fun p _ => ?_
    show (if p.1 = k then (p.1, x) else p).1 = p.1
    split <;> rfl
  · rw [if_neg h, if_neg h, List.map_append]
    rfl
theorem Dst.put {v : Vec} (h : Dst v) (k x : Int) : Dst (vput v k x) := by
  unfold Dst
  rw [vput_keys]
  by_cases e : (v.any fun p => decide (p.1 = k)) = true
  · rw [if_pos e]; exact h
  · rw [if_neg e, List.nodup_append]
    refine ⟨h, by simp, fun a ha b hb => ?_⟩
    have hb : b = k := by simpa using hb
    subst hb
    exact fun z => e (any_mem.mpr (by rw [← z]; exact ha))
theorem vput_len (v : Vec) (k x : Int) : (vput v k x).length ≤ v.length + 1 := by
  unfold vput
  split
  · rw [List.length_map]; omega
  · rw [List.length_append]; exact Nat.le_refl _
theorem Dst.filter {v : Vec} (h : Dst v) (c : Int × Int → Bool) : Dst (v.filter c) := (List.filter_sublist (p := c)).map _ |>.nodup h
theorem Dst.mapv {v : Vec} (h : Dst v) (f : Int × Int → Int) : Dst (v.map fun p => (p.1, f p)) := by
  unfold Dst
  rw [List.map_map]
  exact h
theorem Dst.mapk {v : Vec} (h : Dst v) (g : Int → Int) (hg : ∀ a b, g a = g b → a = b) (f : Int × Int → Int) : Dst (v.map fun p => (g p.1, f p)) := by
  unfold Dst
  rw [List.map_map]
  show (v.map (g ∘ (·.1))).Nodup
  rw [← List.map_map]
  unfold Dst List.Nodup at *
  exact List.Pairwise.map _ (fun a b h z => h (hg a b z)) h
theorem vadd_dst : ∀ (vec : Vec) (t : Vec) (times : Int), Dst t → Dst (vaddTo t vec times)
  | [], _, _, h => h
  | p :: r, t, times, h => by
    unfold vaddTo
    rw [List.foldl_cons]
    exact vadd_dst r _ times (h.put _ _)
theorem vadd_len : ∀ (vec : Vec) (t : Vec) (times : Int), (vaddTo t vec times).length ≤ t.length + vec.length
  | [], _, _ => Nat.le_refl _
  | p :: r, t, times => by
    have h1 := vadd_len r (vput t p.1 ((vget t p.1).getD 0 + times * p.2)) times
    have h2 := vput_len t p.1 ((vget t p.1).getD 0 + times * p.2)
    unfold vaddTo at h1 ⊢
    rw [List.foldl_cons, List.length_cons]
    omega
theorem Dst.get {v : Vec} (h : Dst v) {n : Nat} {k x : Int} (e : v[n]? = some (k, x)) : vget v k = some x := by
  induction v generalizing n with
  | nil => simp at e
  | cons p r ih =>
    rw [vget_cons]
    unfold Dst at h
    rw [List.map_cons, List.nodup_cons] at h
    cases n with
    | zero =>
      have e : p = (k, x) := by simpa using e
      rw [e, if_pos rfl]
    | succ n =>
      have e : r[n]? = some (k, x) := by simpa using e
      have hm : k ∈ r.map (·.1) := List.mem_map.mpr ⟨(k, x), List.mem_of_getElem? e, rfl⟩
      rw [if_neg (fun z => h.1 (by rw [z]; exact hm))]
      exact ih h.2 e
/-! ### in the heap -/
def VecAt (H : Hp) (a : Addr) (v : Vec) : Prop := Rd H a (.dK (kvs v)) ∧ Dst v
theorem VecAt.same {H H' : Hp} {a : Addr} {v : Vec} (h : VecAt H a v) (s : Same H H') : VecAt H' a v := by
  refine ⟨?_, h.2⟩
  rcases h.1 with e | ⟨o, e⟩
  · exact .inl (s _ _ e)
  · exact .inr ⟨o, s _ _ e⟩
theorem VecAt.of {H : Hp} {a : Addr} {v : Vec} (h : H a = some (.dK (kvs v))) (d : Dst v) : VecAt H a v := ⟨.inl h, d⟩
theorem VecAt.isD {H : Hp} {a : Addr} {v : Vec} (h : VecAt H a v) : IsD H a := .inl ⟨_, h.1⟩
theorem VecAt.dget {H : Hp} {a : Addr} {v : Vec} (h : VecAt H a v) (k : Int) : DGet H a (.int k) ((vget v k).map V.int) := .inl ⟨kvs v, .inl k, h.1, rfl, (valV_kvs v k).symm⟩
theorem VecAt.ne {H : Hp} {a b : Addr} {v : Vec} {o : HO} (h : VecAt H a v) (e : H b = some o) (h1 : ∀ l, o ≠ .dK l) (h2 : ∀ q l, o ≠ .frz q (.dK l)) : a ≠ b := fun z => by
  subst z
  rcases h.1 with g | ⟨q, g⟩
  · rw [g] at e; cases e; exact h1 _ rfl
  · rw [g] at e; cases e; exact h2 _ _ rfl
theorem VecAt.some {H : Hp} {a : Addr} {v : Vec} (h : VecAt H a v) : H a ≠ none := fun z => by
  rcases h.1 with g | ⟨q, g⟩ <;> (rw [z] at g; cases g)
/-- a vector that is held still for good -/
def VecF (H : Hp) (a : Addr) (v : Vec) : Prop := (∃ o, H a = some (.frz o (.dK (kvs v)))) ∧ Dst v
theorem VecF.vec {H : Hp} {a : Addr} {v : Vec} (h : VecF H a v) : VecAt H a v := ⟨.inr h.1, h.2⟩
theorem VecF.same {H H' : Hp} {a : Addr} {v : Vec} (h : VecF H a v) (s : Same H H') : VecF H' a v := by
  obtain ⟨⟨o, e⟩, d⟩ := h
  exact ⟨⟨o, s _ _ e⟩, d⟩
/-! ### held still -/
structure LkOk (d : Addr) (H Hl : Hp) (U : Hp → Hp) : Prop where
  off : ∀ b, b ≠ d → Hl b = H b
  back : ∀ H' b, b ≠ d → U H' b = H' b
  at_ : ∀ H', H' d = Hl d → U H' d = H d
theorem LkOk.same {d : Addr} {H Hl H' : Hp} {U : Hp → Hp} (l : LkOk d H Hl U) (s : Same Hl H') (e : H' d = Hl d) : Same H (U H') := fun b o hb => by
  by_cases z : b = d
  · subst z
    rw [l.at_ H' e]
    exact hb
  · rw [l.back H' b z]
    exact s _ _ (by rw [l.off b z]; exact hb)
theorem LkOk.frm {d : Addr} {L : List Addr} {H Hl H' : Hp} {U : Hp → Hp} (l : LkOk d H Hl U) (s : Frm L Hl H') (e : H' d = Hl d) : Frm L H (U H') := fun b o hb hn => by
  by_cases z : b = d
  · subst z
    rw [l.at_ H' e]
    exact hb
  · rw [l.back H' b z]
    exact s _ _ (by rw [l.off b z]; exact hb) hn
theorem LkOk.none {d : Addr} {H Hl : Hp} {U : Hp → Hp} (l : LkOk d H Hl U) (hd : Hl d ≠ none) {b : Addr} (h : Hl b = none) : H b = none := by
  rw [← l.off b (fun z => hd (by rw [← z]; exact h))]
  exact h
def tLk (t : TS) : TS := fun D σ H => tLock t D σ H ∨ t D σ H
def tLkE (t : TE) : TE := fun σ H Q => tLockE t σ H Q ∨ t σ H Q
section
variable {X : Cx}
theorem ps_lk {st : Stmt} {t : TS} (h : PS X st t) : PS X st (tLk t) := ⟨fun pins s σ H D I hw => hw.elim (fun q => (ps_lock h).run pins s σ H D I q) (fun q => h.run pins s σ H D I q)⟩
theorem pe_lk {e : Expr} {t : TE} (h : PE X e t) : PE X e (tLkE t) := ⟨fun pins s σ H Q I hw => hw.elim (fun q => (pe_lock h).run pins s σ H Q I q) (fun q => h.run pins s σ H Q I q)⟩
end
section
variable {X : Cx}
/-- what an expression gives may be held still from then on -/
theorem pe_frz {e : Expr} {t : TE} (he : PE X e t) : PE X e (fun σ H Q => t σ H fun v H1 => Q v H1 ∨ ∃ a u, v = .ref a ∧ H1 a = some u ∧ Mut (some u) ∧ ∀ o, Q v (upd H1 a (.frz o u))) := by
  refine ⟨fun pins s σ H Q I h => thn (he.run pins s σ H _ I h) fun v s1 ⟨x, H1, I1, rx, q⟩ => ?_⟩
  rcases q with q | ⟨a, u, ex, hu, mu, q⟩
  · exact ⟨x, H1, I1, rx, q⟩
  · obtain ⟨od, I2⟩ := I1.lock hu mu
    exact ⟨x, _, I2, rx, q od⟩
end
theorem lk_ok {H : Hp} {d : Addr} {u : HO} {o : Obj} (h : H d = some u) : LkOk d H (upd H d (.frz o u)) (fun H' => upd H' d u) := ⟨fun b z => upd_ne z, fun H' b z => upd_ne z, fun H' _ => by rw [upd_same, h]⟩
theorem lk_id {H : Hp} {d : Addr} : LkOk d H H id := ⟨fun _ _ => rfl, fun _ _ _ => rfl, fun _ e => e⟩
structure LkE (D : Ends) (d : Addr) (Hl : Hp) (U : Hp → Hp) (E : Ends) : Prop where
  nx : ∀ σ' H', H' d = Hl d → D.nx σ' (U H') → E.nx σ' H'
  rt : ∀ v H', H' d = Hl d → D.rt v (U H') → E.rt v H'
  bk : ∀ σ' H', H' d = Hl d → D.bk σ' (U H') → E.bk σ' H'
  ct : ∀ σ' H', H' d = Hl d → D.ct σ' (U H') → E.ct σ' H'
theorem lk_open {t : TS} {D : Ends} {σ : L2.St} {H : Hp} {d : Addr} {l : List (Key × V)} (hv : Rd H d (.dK l)) (h : ∀ Hl U o E, LkOk d H Hl U → Hl d = some (.frz o (.dK l)) → LkE D d Hl U E → t E σ Hl) : tLk t D σ H := by
  rcases hv with e | ⟨o, e⟩
  · refine .inl ⟨d, _, e, True.intro, fun od => ?_⟩
    refine h _ _ od _ (lk_ok (o := od) e) upd_same ⟨fun σ' H' z q => ⟨z.trans upd_same, q⟩, fun v H' z q => ⟨z.trans upd_same, q⟩, fun σ' H' z q => ⟨z.trans upd_same, q⟩, fun σ' H' z q => ⟨z.trans upd_same, q⟩⟩
  · exact .inr (h H id o D lk_id e ⟨fun _ _ _ q => q, fun _ _ _ q => q, fun _ _ _ q => q, fun _ _ _ q => q⟩)
theorem lkE_open {t : TE} {σ : L2.St} {H : Hp} {Q : VK} {d : Addr} {l : List (Key × V)} (hv : Rd H d (.dK l)) (h : ∀ Hl U o (R : VK), LkOk d H Hl U → Hl d = some (.frz o (.dK l)) → (∀ v H', H' d = Hl d → Q v (U H') → R v H') → t σ Hl R) : tLkE t σ H Q := by
  rcases hv with e | ⟨o, e⟩
  · exact .inl ⟨d, _, e, True.intro, fun od => h _ _ od _ (lk_ok (o := od) e) upd_same fun v H' z q => ⟨z.trans upd_same, q⟩⟩
  · exact .inr (h H id o Q lk_id e fun _ _ _ q => q)
/-! ### a dict comprehension, one turn at a time -/
/-- over what is walked: Pv by the turn and the heap (the new dict at D within) -/
theorem dc_it {J : It} {n : Nat} {G : Hp → Prop} {Y : Nat → Hp → V → Hp → Prop} (wk : Walk J n G Y) {g : TG} {tt : TT} {tk tv : TE} {vs : List Nat} {σ : L2.St} {H1 : Hp} {D : Addr} {Qd : Hp → Prop} (Pv : Nat → Hp → Prop) (hz : Pv 0 (upd H1 D (.dK []))) (hG : ∀ i H, i ≤ n → Pv i H → G H)
    (st : ∀ i x H H', i < n → Pv i H → Y i H x H' → g x (wipe σ vs) H' fun σ2 H2 => wipe σ2 vs = wipe σ vs ∧ tt σ2 H2 fun b H3 => if b = true then tk σ2 H3 fun y H4 => tv σ2 H4 fun z H5 => ∃ kvs k, y = kV k ∧ H5 D = some (.dK kvs) ∧ kvs.length < sizeLine ∧ Pv (i + 1) (upd H5 D (.dK (putK kvs k z))) else Pv (i + 1) H3)
    (fin : ∀ H, Pv n H → Qd H) : ∃ W : Nat → Nat → Hp → Prop, (∃ m, W 0 m (upd H1 D (.dK []))) ∧ ∀ i m H, W i m H →
  (J.stop i H ∧ Qd H) ∨ (J.go i H ∧ ∃ Nx : Hp → Prop, (∀ H', Nx H' → ∃ m', m' < m ∧ W (i + 1) m' H') ∧ ∀ x H', J.yld i H x H' → g x (wipe σ vs) H' fun σ2 H2 => wipe σ2 vs = wipe σ vs ∧ tt σ2 H2 fun b H3 =>
    if b = true then tk σ2 H3 fun y H4 => tv σ2 H4 fun z H5 => ∃ kvs k, y = kV k ∧ H5 D = some (.dK kvs) ∧ kvs.length < sizeLine ∧ Nx (upd H5 D (.dK (putK kvs k z))) else Nx H3) := by
  refine ⟨fun i m H => i ≤ n ∧ m = n - i ∧ Pv i H, ⟨n, Nat.zero_le _, by simp, hz⟩, fun i m H hw => ?_⟩
  obtain ⟨hi, rfl, p⟩ := hw
  have gg := hG i H hi p
  rcases Nat.lt_or_ge i n with lt | ge
  · exact .inr ⟨wk.goes i H lt gg, Pv (i + 1), fun H' p' => ⟨n - (i + 1), by omega, lt, rfl, p'⟩, fun x H' y => st i x H H' lt p (wk.yields i H x H' lt gg y)⟩
  · obtain rfl : i = n := by omega
    exact .inl ⟨wk.stops H gg, fin H p⟩
theorem kvs_get {v : Vec} {i : Nat} {x y : V} (hx : ((kvs v)[i]?.map fun kv => kV kv.1) = some x) (hy : (kvs v)[i]?.map Prod.snd = some y) : ∃ k n, v[i]? = some (k, n) ∧ x = .int k ∧ y = .int n := by
  rw [List.getElem?_map] at hx hy
  cases e : v[i]? with
  | none => rw [e] at hx; cases hx
  | some p =>
    rw [e] at hx hy
    obtain ⟨k, n⟩ := p
    exact ⟨k, n, rfl, (Option.some.inj hx).symm, (Option.some.inj hy).symm⟩
/-- {f p: g p for p in v.items() if c p} -/
theorem items_core {i : Nat} {g : TG} {tt : TT} {tk tv : TE} {vs : List Nat} {σ : L2.St} {H Hl : Hp} {U : Hp → Hp} {o : Obj} {R : VK} {d : Addr} {v : Vec} (l : LkOk d H Hl U) (hl : Hl d = some (.frz o (.dK (kvs v)))) (c : Int × Int → Bool) (f : Int × Int → Int × Int) (hσ : σ[i]? = some (some (.ref d))) (hv : VecAt H d v) (hn : v.length < sizeLine) (hd : Dst ((v.filter c).map f))
    (st : ∀ k x H2 T (Nx : Hp → Prop) D, (k, x) ∈ v → H2 T = some (.tup [.int k, .int x]) → (∀ b o, b ≠ d → H b = some o → H2 b = some o) → (∃ us, H2 D = some (.dK us) ∧ us.length < sizeLine) → (c (k, x) = false → Nx H2) → (c (k, x) = true → ∀ us, H2 D = some (.dK us) → Nx (upd H2 D (.dK (putK us (.inl (f (k, x)).1) (.int (f (k, x)).2))))) →
      g (.ref T) (wipe σ vs) H2 fun σ2 H3 => wipe σ2 vs = wipe σ vs ∧ tt σ2 H3 fun b H4 => if b = true then tk σ2 H4 fun y H5 => tv σ2 H5 fun z H6 => ∃ us k, y = kV k ∧ H6 D = some (.dK us) ∧ us.length < sizeLine ∧ Nx (upd H6 D (.dK (putK us k z))) else Nx H4)
    (fin : ∀ D H', H' d = Hl d → H D = none → Same H (U H') → VecAt (U H') D ((v.filter c).map f) → U H' D = some (.dK (kvs ((v.filter c).map f))) → R (.ref D) H') : tDc (iItems (tVar i)) g tt tk tv vs σ Hl R := by
  refine ⟨_, hσ, d, o, kvs v, rfl, hl, fun D hD => ?_⟩
  have hdD : D ≠ d := fun z => by rw [z, hl] at hD; cases hD
  have hDH : H D = none := by rw [← l.off D hdD]; exact hD
  refine dc_it (walk_items (d := d) (o := o) (kvs := kvs v)) (fun n H' => H' d = Hl d ∧ Same Hl H' ∧ H' D = some (.dK (kvs (((v.take n).filter c).map f))) ∧ True)
    ⟨upd_ne hdD.symm, same_upd (Same.refl Hl) hD, by rw [upd_same]; rfl, True.intro⟩ (fun n H' _ p => p.1.trans hl) ?_ ?_
  · rintro n x H1 H2 hlt ⟨p1, p2, p3, -⟩ ⟨T, x1, x2, rfl, hT, rfl, e1, e2⟩
    obtain ⟨k, y, hp, rfl, rfl⟩ := kvs_get e1 e2
    have hTd : T ≠ d := fun z => by rw [z, p1, hl] at hT; cases hT
    have hTD : T ≠ D := fun z => by rw [z, p3] at hT; cases hT
    have s2 : Same H1 (upd H1 T (.tup [.int k, .int y])) := same_upd (Same.refl H1) hT
    have et : v.take (n + 1) = v.take n ++ [(k, y)] := take_succ_get hp
    have p3' : upd H1 T (.tup [.int k, .int y]) D = some (.dK (kvs (((v.take n).filter c).map f))) := (upd_ne hTD.symm).trans p3
    have hlen : (kvs (((v.take n).filter c).map f)).length < sizeLine := by
      have h1 : ((v.take n).filter c).length ≤ (v.take n).length := List.length_filter_le _ _
      have h2 : (v.take n).length ≤ v.length := by rw [List.length_take]; omega
      rw [List.length_map, List.length_map]
      omega
    refine st k y _ T _ D (List.mem_of_getElem? hp) upd_same (fun b ob hb h => ?_) ⟨_, p3', hlen⟩ (fun hc => ?_) (fun hc us hus => ?_)
    · exact s2 _ _ (p2 _ _ (by rw [l.off b hb]; exact h))
    · refine ⟨(upd_ne hTd.symm).trans p1, Same.trans p2 s2, ?_, True.intro⟩
      rw [p3', et, List.filter_append, List.filter_cons, hc]
      simp
    · rw [p3'] at hus
      cases hus
      refine ⟨(upd_ne hdD.symm).trans ((upd_ne hTd.symm).trans p1), fun b ob hb => ?_, ?_, True.intro⟩
      · rw [upd_ne (ne_of_none hb hD)]
        exact s2 _ _ (p2 _ _ hb)
      · rw [upd_same, et, List.filter_append, List.filter_cons, hc]
        have hfr : ((kvs (((v.take n).filter c).map f)).any fun kv => decide (kv.1 = Sum.inl (f (k, y)).1)) = false := by
          rw [any_kvs, ← Bool.not_eq_true, any_mem]
          intro hm
          have e : (v.filter c).map f = ((v.take n).filter c).map f ++ [f (k, y)] ++ ((v.drop (n + 1)).filter c).map f := by
            have : v = v.take n ++ [(k, y)] ++ v.drop (n + 1) := by rw [← et, List.take_append_drop]
            conv => lhs; rw [this]
            rw [List.filter_append, List.filter_append, List.map_append, List.map_append, List.filter_cons, hc]
            rfl
          unfold Dst at hd
          rw [e, List.map_append, List.map_append, List.nodup_append, List.nodup_append] at hd
          exact hd.1.2.2 _ hm _ (by simp) rfl
        have : putK (kvs (((v.take n).filter c).map f)) (Sum.inl (f (k, y)).1) (V.int (f (k, y)).2) = kvs (((v.take n).filter c).map f) ++ [(Sum.inl (f (k, y)).1, V.int (f (k, y)).2)] := by
          unfold putK
          rw [hfr]
          rfl
        rw [this]
        show some (HO.dK (kvs (((v.take n).filter c).map f) ++ [(Sum.inl (f (k, y)).1, V.int (f (k, y)).2)])) = some (HO.dK (kvs (((v.take n).filter c ++ [(k, y)]).map f)))
        rw [List.map_append]
        show _ = some (HO.dK ((((v.take n).filter c).map f ++ [f (k, y)]).map _))
        rw [List.map_append]
        rfl
  · rintro H' ⟨p1, p2, p3, -⟩
    rw [List.length_map, List.take_length] at p3
    have p3' : U H' D = some (.dK (kvs ((v.filter c).map f))) := (l.back H' D hdD).trans p3
    exact fin D _ p1 hDH (l.same p2 p1) (.of p3' hd) p3'
theorem items_dc {i : Nat} {g : TG} {tt : TT} {tk tv : TE} {vs : List Nat} {σ : L2.St} {H : Hp} {Q : VK} {d : Addr} {v : Vec} (c : Int × Int → Bool) (f : Int × Int → Int × Int) (hσ : σ[i]? = some (some (.ref d))) (hv : VecAt H d v) (hn : v.length < sizeLine) (hd : Dst ((v.filter c).map f))
    (st : ∀ k x H2 T (Nx : Hp → Prop) D, (k, x) ∈ v → H2 T = some (.tup [.int k, .int x]) → (∀ b o, b ≠ d → H b = some o → H2 b = some o) → (∃ us, H2 D = some (.dK us) ∧ us.length < sizeLine) → (c (k, x) = false → Nx H2) → (c (k, x) = true → ∀ us, H2 D = some (.dK us) → Nx (upd H2 D (.dK (putK us (.inl (f (k, x)).1) (.int (f (k, x)).2))))) →
      g (.ref T) (wipe σ vs) H2 fun σ2 H3 => wipe σ2 vs = wipe σ vs ∧ tt σ2 H3 fun b H4 => if b = true then tk σ2 H4 fun y H5 => tv σ2 H5 fun z H6 => ∃ us k, y = kV k ∧ H6 D = some (.dK us) ∧ us.length < sizeLine ∧ Nx (upd H6 D (.dK (putK us k z))) else Nx H4)
    (fin : ∀ D H', H D = none → Same H H' → VecAt H' D ((v.filter c).map f) → H' D = some (.dK (kvs ((v.filter c).map f))) → Q (.ref D) H') : tLkE (tDc (iItems (tVar i)) g tt tk tv vs) σ H Q := by
  refine lkE_open hv.1 fun Hl U o R l hl hR => items_core l hl c f hσ hv hn hd st fun D H' e h1 h2 h3 h4 => hR _ _ e (fin D _ h1 h2 h3 h4)
/-- .. as a name's value -/
theorem items_set {i j : Nat} {DD : Ends} {g : TG} {tt : TT} {tk tv : TE} {vs : List Nat} {σ : L2.St} {H : Hp} {d : Addr} {v : Vec} (c : Int × Int → Bool) (f : Int × Int → Int × Int) (hσ : σ[i]? = some (some (.ref d))) (hv : VecAt H d v) (hn : v.length < sizeLine) (hd : Dst ((v.filter c).map f))
    (st : ∀ k x H2 T (Nx : Hp → Prop) D, (k, x) ∈ v → H2 T = some (.tup [.int k, .int x]) → (∀ b o, b ≠ d → H b = some o → H2 b = some o) → (∃ us, H2 D = some (.dK us) ∧ us.length < sizeLine) → (c (k, x) = false → Nx H2) → (c (k, x) = true → ∀ us, H2 D = some (.dK us) → Nx (upd H2 D (.dK (putK us (.inl (f (k, x)).1) (.int (f (k, x)).2))))) →
      g (.ref T) (wipe σ vs) H2 fun σ2 H3 => wipe σ2 vs = wipe σ vs ∧ tt σ2 H3 fun b H4 => if b = true then tk σ2 H4 fun y H5 => tv σ2 H5 fun z H6 => ∃ us k, y = kV k ∧ H6 D = some (.dK us) ∧ us.length < sizeLine ∧ Nx (upd H6 D (.dK (putK us k z))) else Nx H4)
    (fin : ∀ D H', H D = none → Same H H' → VecAt H' D ((v.filter c).map f) → H' D = some (.dK (kvs ((v.filter c).map f))) → DD.nx (σ.set j (some (.ref D))) H') : tLk (tAsg (tDc (iItems (tVar i)) g tt tk tv vs) (gName j)) DD σ H := by
  refine lk_open hv.1 fun Hl U o E l hl hE => ?_
  exact items_core (R := fun x H1 => gName j x σ H1 E.nx) l hl c f hσ hv hn hd st fun D H' e h1 h2 h3 h4 => hE.nx _ _ e (fin D _ h1 h2 h3 h4)
/-- for k, x in v.items() -/
theorem items_for {i : Nat} {g : TG} {tb : TS} {D : Ends} {σ : L2.St} {H : Hp} {d : Addr} {v : Vec} (hσ : σ[i]? = some (some (.ref d))) (hv : VecAt H d v)
    (h : ∀ Hl U, LkOk d H Hl U → VecAt Hl d v → Hl d ≠ none → ∃ Pv : Nat → L2.St → Hp → Prop, Pv 0 σ Hl ∧ (∀ n σ H', Pv n σ H' → H' d = Hl d) ∧
      (∀ n k x σ H' T (E : Ends), v[n]? = some (k, x) → Pv n σ H' → H' T = none → E.nx = Pv (n + 1) → E.ct = Pv (n + 1) → g (.ref T) σ (upd H' T (.tup [.int k, .int x])) fun σ2 H2 => tb E σ2 H2) ∧
      (∀ σ H', Pv v.length σ H' → D.nx σ (U H'))) : tLk (tFor (iItems (tVar i)) g tb) D σ H := by
  refine lk_open hv.1 fun Hl U o E l hl hE => ?_
  have hvl : VecAt Hl d v := ⟨.inr ⟨o, hl⟩, hv.2⟩
  obtain ⟨Pv, h0, hk, st, fin⟩ := h Hl U l hvl (by rw [hl]; exact fun z => nomatch z)
  refine ⟨_, hσ, d, o, kvs v, rfl, hl, ?_⟩
  refine for_it (walk_items (d := d) (o := o) (kvs := kvs v)) Pv h0 (fun n σ H' _ p => (hk n σ H' p).trans hl) ?_ ?_
  · rintro n x σ H1 H2 hlt p ⟨T, x1, x2, rfl, hT, rfl, e1, e2⟩
    obtain ⟨k, y, hp, rfl, rfl⟩ := kvs_get e1 e2
    exact st n k y σ H1 T _ hp p hT rfl rfl
  · intro σ H' p
    rw [List.length_map] at p
    exact hE.nx _ _ (hk _ _ _ p) (fin σ H' p)
end FC
set_option Elab.async false
set_option linter.all false
set_option maxRecDepth 100000
set_option maxHeartbeats 4000000
/-! {**m, k: v}: a copy of a dict, and one entry more. -/
namespace FC
open PySem PySem.Spec PyProof.Rows L2
section
variable {P : Program} {w : World} {κ : Type} [DecidableEq κ] {knd : KeyKind P w κ} {A : Around} {E : Value → Shared → Prop} {s : Shared}
theorem dictPut_k {d : Addr} {us : List (κ × Value)} {k : κ} {key v : Value} {Q : Unit → Shared → Prop} (hz : us.length ≤ sizeLine) (ky : knd.is k key = true) (m : s.heap.DictOf knd d us)
    (q : ∀ h', h'.DictOf knd d (stored us k v) → Heap.SameBut d s.heap h' → Q () { s with heap := h' }) : wpAny (model P w) A (dictPut d (knd.hash k) key v) Q E s := by
  obtain ⟨o, es, ep, ho, hc, hd, hk, hp, hn⟩ := m
  have hes : es.size ≤ sizeLine := by
    have e1 := hp.length
    have e2 : es.toList.length = es.size := by simp
    omega
  have hix : (es.findIdx? fun e => knd.is k e.key) = us.findIdx? fun kv => decide (kv.1 = k) := by
    rw [← hp.findIdx k]
    obtain ⟨l⟩ := es
    simp
  unfold dictPut
  refine wpAny_bind (wpAny_dictFind_of ky ho hd hk ?_)
  cases hi : es.findIdx? fun e => knd.is k e.key with
  | some i =>
    refine wpAny_updateDict ho hd (q _ ⟨_, _, ep, Heap.get?_update_self _ ho (Obj.isFreed_of_dict (Obj.data_mapDict hd _)), hc.mapDict _, Obj.data_mapDict hd _, hk.modify _ _, ?_, ?_⟩ (Heap.SameBut.update ..))
    · have hl : (es.toList.findIdx? fun e => knd.is k e.key) = some i := by
        rw [← hi]
        obtain ⟨l⟩ := es
        simp
      rw [stored, if_pos (any_of_findIdx_some (hix ▸ hi))]
      have z := hp.modify hn hl v
      obtain ⟨l⟩ := es
      simpa using z
    · rw [stored, if_pos (any_of_findIdx_some (hix ▸ hi)), keys_map_store]
      exact hn
  | none =>
    have nk : k ∉ us.map (·.1) := not_mem_of_findIdx_none (hix ▸ hi)
    have na : ¬ (us.any fun kv => decide (kv.1 = k)) = true := by
      rw [List.any_eq_true]
      rintro ⟨kv, h1, h2⟩
      exact nk (List.mem_map.mpr ⟨kv, h1, of_decide_eq_true h2⟩)
    refine wpAny_updateDictKeys (hz := hes) ho hd (q _ ⟨_, _, ep + 1, Heap.get?_update_self _ ho (Obj.isFreed_of_dict (Obj.data_mapDictKeys hd _)), hc.mapDictKeys _, Obj.data_mapDictKeys hd _, hk.push ky _, ?_, ?_⟩ (Heap.SameBut.update ..))
    · rw [stored, if_neg na]
      have z := hp.append ky (knd.hash k) v
      obtain ⟨l⟩ := es
      simpa using z
    · rw [stored, if_neg na, List.map_append, List.nodup_append]
      refine ⟨hn, by simp, fun a ha b hb e => ?_⟩
      have hb : b = k := by simpa using hb
      exact nk (by rw [← hb, ← e]; exact ha)
/-- a dict's entries put into another one -/
theorem merge_k {d o : Addr} {us ms : List (κ × Value)} {Q : Unit → Shared → Prop} (hby : ∀ k v, knd.is k v = true → ∀ b, v ≠ .ref b) (hz : us.length + ms.length ≤ sizeLine) (ne : d ≠ o) (no : (o == sysModules) = false) (hd : s.heap.DictOf knd d us) (ho : s.heap.DictOf knd o ms)
    (q : ∀ h', h'.DictOf knd d (merged us ms) → Heap.SameBut d s.heap h' → Q () { s with heap := h' }) : wpAny (model P w) A (mergeMapping d (.ref o) false) Q E s := by
  have hT := ho.typeIs
  obtain ⟨od, esd, epd, hod, hcd, hdd, hkd, hpd, hnd⟩ := id hd
  obtain ⟨oo, eso, epo, hoo, hco, hdo, hko, hpo, hno⟩ := id ho
  have hlen : ms.length = eso.size := by rw [← hpo.length]; simp
  unfold mergeMapping
  refine wpAny_bind (wpAny_isInstance hT isSubtype_dict_dict ?_)
  rw [if_pos rfl]
  refine wpAny_bind (wpAny_specialOf hT F.slot_dict_iter.lookup ?_)
  refine wpAny_bind (wpAny_pure ?_)
  have ebt : (some (Value.builtin "dict.__iter__") == some (Value.builtin "dict.__iter__")) = true := by decide
  rw [ebt]
  dsimp only
  rw [if_neg (by rw [no]; exact Bool.false_ne_true)]
  have loop : wpAny (model P w) A (do
      let size := (← dictEntries o).size
      let epoch ← dictEpoch o
      for i in List.range size do
        let some e := (← dictEntries o)[i]? | unsupported "dict.changed-during-merge"
        holding [e.key, e.val] do
          if false = true then
            if (← dictFind d e.key e.hash).isSome then rule "dict.merge.duplicate-key"; raiseNew (← newExc (.type "KeyError") [e.key])
          dictPut d e.hash e.key e.val
        if (← dictEpoch o) != epoch then unsupported "dict.changed-during-merge") Q E s := by
    refine wpAny_bind (wpAny_dictEntries hoo hdo ?_)
    refine wpAny_bind (wpAny_dictEpoch hoo hdo ?_)
    refine wpAny_bind ?_
    refine wpAny_forIn_list _ (fun rest _ t => ∃ g i, t = { s with heap := g } ∧ rest = (List.range eso.size).drop i ∧ i ≤ eso.size ∧ g.DictOf knd d (merged us (ms.take i)) ∧ g.get? o = some oo ∧ Heap.SameBut d s.heap g) _ ?_ ?_ _ _
      ⟨s.heap, 0, rfl, by simp, Nat.zero_le _, by simpa [merged] using hd, hoo, Heap.SameBut.refl _ _⟩
    · rintro x rest b t ⟨g, i, rfl, hr, hi, gd, go, gs⟩
      have hlt : i < eso.size := by
        rcases Nat.lt_or_ge i eso.size with z | z
        · exact z
        · rw [List.drop_eq_nil_of_le (by rw [List.length_range]; exact z)] at hr
          cases hr
      have hdr : (List.range eso.size).drop i = i :: (List.range eso.size).drop (i + 1) := by
        rw [List.drop_eq_getElem_cons (by rw [List.length_range]; exact hlt), List.getElem_range]
      rw [hdr] at hr
      obtain ⟨rfl, hrest⟩ : x = i ∧ rest = (List.range eso.size).drop (i + 1) := by
        injection hr with h1 h2
        exact ⟨h1, h2⟩
      refine wpAny_bind (wpAny_dictEntries go hdo ?_)
      rw [Array.getElem?_eq_getElem hlt]
      obtain ⟨⟨k, v⟩, hkv⟩ : ∃ kv, ms[x]? = some kv := ⟨ms[x]'(by rw [hlen]; exact hlt), List.getElem?_eq_getElem _⟩
      obtain ⟨hkey, hval⟩ := hpo.get? (e := eso[x]) (by simp [hlt]) hkv
      obtain ⟨k', hkey', hhash⟩ := hko eso[x] (Array.getElem_mem hlt)
      obtain rfl : k' = k := knd.inj _ _ _ hkey' hkey
      dsimp only
      rw [if_neg (show ¬ (false = true) from Bool.false_ne_true)]
      rw [hhash, hval]
      have hmx : (merged us (ms.take x)).length ≤ sizeLine := by
        have e1 := merged_length_le us (ms.take x)
        have e2 : (ms.take x).length ≤ ms.length := by rw [List.length_take]; omega
        omega
      refine wpAny_bind (wpAny_holding (dictPut_k hmx hkey gd fun g2 gd2 gs2 => ?_))
      have go2 : g2.get? o = some oo := (gs2.2 o (Ne.symm ne)).trans go
      refine wpAny_bind (wpAny_dictEpoch go2 hdo ?_)
      rw [if_neg (by simp)]
      exact wpAny_pure ⟨g2, x + 1, rfl, hrest, hlt, by rw [merged_take_succ us ms x (k', v) hkv]; exact gd2, go2, gs.trans gs2⟩
    · rintro b t ⟨g, i, rfl, hr, hi, gd, go, gs⟩
      have hin : i = eso.size := by
        have := congrArg List.length hr
        rw [List.length_drop, List.length_range, List.length_nil] at this
        omega
      refine wpAny_pure (q g ?_ gs)
      rw [hin, ← hlen, List.take_length] at gd
      exact gd
  refine wpAny_bind (wpAny_dictEntries hod hdd ?_)
  by_cases hemp : esd.isEmpty = true
  · rw [if_pos hemp]
    refine wpAny_bind (wpAny_dictEntries hoo hdo (wpAny_bind ?_))
    rw [← Array.forIn_toList]
    refine wpAny_forIn_list _ (fun rest _ t => t = s ∧ ∀ e ∈ rest, e ∈ eso.toList) _ ?_ ?_ _ _ ⟨rfl, fun e h => h⟩
    · rintro e rest b t ⟨rfl, hall⟩
      obtain ⟨k, hk, _⟩ := hko e (by simpa using hall e List.mem_cons_self)
      have := hby k e.key hk
      split
      · rename_i b' hb'
        exact absurd hb' (this b')
      · exact wpAny_pure ⟨rfl, fun z hz => hall z (List.mem_cons_of_mem _ hz)⟩
    · rintro b t ⟨rfl, _⟩
      exact loop
  · rw [if_neg hemp]
    exact loop
end
section
variable {X : Cx} {pins : List (Addr × Obj)} {σ : L2.St} {H : Hp} {s : Shared} {E : Value → Shared → Prop}
theorem mix_byv (P : Program) (w : World) : ∀ k v, (mixKind P w).is k v = true → ∀ b, v ≠ .ref b := fun k v h b e => by
  rcases keyIs_shape h with ⟨i, t, _, rfl⟩ | ⟨x, t, _, rfl⟩ <;> cases e
theorem d_merge {d a : Addr} {us l : List (Key × V)} {Q : Unit → Shared → Prop} (I : Inv X pins σ H s) (hd : H d = some (.dK us)) (ha : Rd H a (.dK l)) (ne : d ≠ a) (hz : us.length + l.length ≤ sizeLine) (q : ∀ s', Inv X pins σ (upd H d (.dK (mergeK us l))) s' → Q () s') :
    wpAny (model X.prog X.w) X.A (mergeMapping d (.ref a) false) Q E s := by
  obtain ⟨z1, n1, vs, r1, dd1⟩ := dk_of I.hok hd
  obtain ⟨z2, n2, ws, r2, dd2⟩ := dk_rd I.hok ha
  have e1 : us.length = vs.length := r1.length
  have e2 : l.length = ws.length := r2.length
  refine merge_k (mix_byv X.prog X.w) (by omega) ne n2 dd1 dd2 fun h' dd' hs => q _ ?_
  have he : ∃ q, h'.get? d = some q := let ⟨q, _, _, hq, _⟩ := dd'; ⟨q, hq⟩
  have hl : (mergeK us l).length ≤ sizeLine := Nat.le_trans (length_mergeK l us) hz
  exact d_write I (by rw [hd]; exact True.intro) hs he (dk_new hl n1 (r2.merge r1) dd')
/-- {**m, k: v} -/
def tDStar (tm tk tv : TE) : TE := fun σ H Q => ∀ p, H p = none → tm σ (upd H p (.dK [])) fun x H1 => ∃ a l, x = .ref a ∧ Rd H1 a (.dK l) ∧ a ≠ p ∧ H1 p = some (.dK []) ∧ l.length < 1000000 ∧
  ∀ q, H1 q = none → tk σ (upd (upd H1 p (.dK (mergeK [] l))) q (.dK [])) fun y H2 => tv σ H2 fun z H3 => ∃ k, y = kV k ∧ H3 p = some (.dK (mergeK [] l)) ∧ H3 q = some (.dK []) ∧ Q (.ref p) (upd (upd H3 q (.dK [(k, z)])) p (.dK (putK (mergeK [] l) k z)))
theorem pe_dstar {m k v : Expr} {pos : Pos} {tm tk tv : TE} (hm : PE X m tm) (hk : PE X k tk) (hv : PE X v tv) : PE X (.Dict [none, some k] [m, v] pos) (tDStar tm tk tv) := by
  refine ⟨fun pins s σ H Q I h => ?_⟩
  rw [arm_eval_Dict]
  refine wpAny_bind (wpAny_standAt ?_)
  show wpAny _ _ (dictDisplay [(none, do let x ← eval m X.env; standAt pos; pure x), (some (eval k X.env), do let x ← eval v X.env; standAt pos; pure x)]) _ _ _
  unfold dictDisplay
  simp only [List.forIn_cons, List.forIn_nil]
  have hn := I.hok.fresh (Nat.le_refl s.heap.objs.size)
  have I1 := I.laid (a := s.heap.objs.size) (o := .dK []) (h' := s.heap.push { cls := .type "dict", data := .dict #[] }) (t' := s.toks) (fun _ _ q => Heap.get?_push_of_some _ q) (Nat.le_refl _) (dk_empty s.heap I.big)
  have h1 := h _ hn
  -- gen
  refine wpAny_bind (wpAny_bind ?_)
  refine wpAny_bind (wpAny_pure ?_)
  dsimp only
  refine wpAny_bind (wpAny_alloc ?_)
  refine wpAny_bind (wpAny_holding (wpAny_bind (thn (hm.run pins _ σ _ _ I1 h1) fun u s2 ⟨x, H1, I2, rx, a, l, ex, ra, nea, hp, hl, q2⟩ => wpAny_bind (wpAny_standAt (wpAny_pure ?_)))))
  subst ex
  obtain rfl : u = Value.ref a := rx
  refine wpAny_bind (wpAny_onRaise (wpAny_tryCatch (wpAny_onRaise (wpAny_holding (d_merge I2 hp ra nea.symm (by rw [List.length_nil, sizeLine_eq]; omega) fun s3 I3 => ?_)))))
  refine wpAny_pure ?_
  refine wpAny_bind ?_
  dsimp only
  rw [if_neg (by simp)]
  refine wpAny_pure (wpAny_pure ?_)
  refine wpAny_bind ?_
  dsimp only
  rw [if_neg (by simp)]
  have hn3 := I3.hok.fresh (Nat.le_refl s3.heap.objs.size)
  have hn1 : H1 s3.heap.objs.size = none := by
    cases e : H1 s3.heap.objs.size with
    | none => rfl
    | some o =>
      by_cases z : s3.heap.objs.size = s.heap.objs.size
      · rw [z, upd_same] at hn3; cases hn3
      · rw [upd_ne z, e] at hn3; cases hn3
  have I4 := I3.laid (a := s3.heap.objs.size) (o := .dK []) (h' := s3.heap.push { cls := .type "dict", data := .dict #[] }) (t' := s3.toks) (fun _ _ q => Heap.get?_push_of_some _ q) (Nat.le_refl _) (dk_empty s3.heap I3.big)
  have q3 := q2 _ hn1
  show wpAny _ _ (do let sub ← holding [Value.ref s.heap.objs.size] (subDict (pairTrees [some k] [v] X.env pos)); _) _ _ _
  refine wpAny_bind (wpAny_holding (wpAny_subDict (knd := mixKind X.prog X.w) (show (1 : Nat) ≤ 15 by omega) (pairTrees_cons_walk (thn (hk.run pins _ σ _ _ I4 q3) fun ku s4 ⟨y, H2, I5, ry, q4⟩ => thn (hv.run pins s4 σ H2 _ I5 q4) fun vu s5 ⟨z, H3, I6, rz, kk, ey, p3, p4, q5⟩ => pairTrees_nil_walk ?_))))
  subst ey
  obtain ⟨z1, n1, vs0, r0, dd⟩ := dk_of I6.hok p4
  cases r0
  refine ⟨[(kk, vu)], ⟨kV_is ry, rfl, True.intro⟩, dd, fun h' dd' hs => ?_⟩
  have he : ∃ q, h'.get? s3.heap.objs.size = some q := let ⟨q, _, _, hq, _⟩ := dd'; ⟨q, hq⟩
  have I7 := d_write (t' := s5.toks + 1) (ob := .dK [(kk, z)]) I6 (by rw [p4]; exact True.intro) hs he (dk_new (by show 1 ≤ sizeLine; rw [sizeLine_eq]; omega) n1 (.cons ⟨rfl, rz⟩ .nil) dd')
  have npq : s.heap.objs.size ≠ s3.heap.objs.size := fun z => by rw [← z] at hn1; rw [hn1] at hp; cases hp
  refine wpAny_bind (wpAny_onRaise (wpAny_holding (d_merge I7 ((upd_ne npq).trans p3) (.inl upd_same) npq ?_ fun s6 I8 => ?_)))
  · have := length_mergeK l []
    rw [List.length_nil] at this
    show _ + 1 ≤ sizeLine
    rw [sizeLine_eq]
    omega
  · exact wpAny_pure (wpAny_pure ⟨.ref s.heap.objs.size, _, I8, rfl, q5⟩)
end
end FC
set_option Elab.async false
set_option linter.all false
set_option maxRecDepth 100000
set_option maxHeartbeats 4000000
/-! math.lcm; // by any divisor but 0; sizes. -/
namespace FC
open PySem PySem.Spec PyProof.Rows L2
theorem sm_lt {n : Int} (h : sm n = true) : n.natAbs < 2 ^ 2000 := of_decide_eq_true h
theorem lcm_lt {a b : Int} {m n : Nat} (ha : a.natAbs < 2 ^ m) (hb : b.natAbs < 2 ^ n) : (ilcm a b).natAbs < 2 ^ (m + n) := by
  have e : (ilcm a b).natAbs = Nat.lcm a.natAbs b.natAbs := Int.natAbs_natCast _
  rw [e, Nat.pow_add]
  by_cases z : a.natAbs = 0 ∨ b.natAbs = 0
  · have : Nat.lcm a.natAbs b.natAbs = 0 := by
      rcases z with z | z <;> rw [z] <;> simp
    rw [this, ← Nat.pow_add]
    exact Nat.two_pow_pos _
  · have h1 : Nat.lcm a.natAbs b.natAbs ≤ a.natAbs * b.natAbs := Nat.div_le_self _ _
    exact Nat.lt_of_le_of_lt h1 (Nat.mul_lt_mul'' ha hb)
section
variable {X : Cx}
def CLcm (a b : Int) : Prop := a.natAbs < 2 ^ 6000 ∧ b.natAbs < 2 ^ 6000
theorem log_lt {n m : Nat} (h0 : 0 < m) (h : n < 2 ^ m) : n.log2 < m := PySem.Flt.log2_lt_of h0 h
theorem cr_lcm : CallR X (.builtin "math.lcm") (fun vs H Q => ∃ a b : Int, vs = [.int a, .int b] ∧ CLcm a b ∧ Q (.int (ilcm a b)) H) := by
  intro pins s σ H vs us Q I r h
  obtain ⟨a, b, rfl, ⟨h1, h2⟩, q⟩ := h
  obtain ⟨t, u, rfl⟩ := Vals.int2 r
  have e : ((Nat.lcm (Nat.lcm 1 a.natAbs) b.natAbs : Nat) : Int) = ilcm a b := by
    rw [Nat.lcm_one_left]
    rfl
  have l1 : (max 1 a.natAbs).log2 < 6000 := log_lt (by decide) (by
    have h0 : 1 < 2 ^ 6000 := Nat.one_lt_two_pow (by decide)
    exact Nat.max_lt.mpr ⟨h0, h1⟩)
  have l2 : (max a.natAbs b.natAbs).log2 < 6000 := log_lt (by decide) (Nat.max_lt.mpr ⟨h1, h2⟩)
  refine call_function_meets PySem.W.MGF.kind_lcm PySem.W.MGF.plain_lcm PySem.W.MGF.entry_lcm (PySem.W.MGF.args_lcm _ _) (PySem.W.mg_run_lcm a t b u (by omega) (by omega) ?_).meets ?_
  · rw [e]
    refine Nat.lt_of_lt_of_le (log_lt (by decide) (lcm_lt h1 h2)) ?_
    decide
  · rw [e]
    exact ⟨.int _, H, I.tok _, ⟨_, rfl⟩, q⟩
def CDivA (_ j : Int) : Prop := j ≠ 0 ∧ j.natAbs < 2 ^ 9000
theorem op_fdivA : OpR X (binaryOp .FloorDiv) (rI CDivA fun i j => .int (i.fdiv j)) := opI fun i j _ _ _ _ _ hc q => floordiv_int hc.1 q (.inl (PyProof.noPylong_of_log2 (log_lt (by decide) hc.2)))
end
section
variable {X : Cx}
/-- a name's value, a dict comprehension on the name's own line -/
theorem ps_setDc {i : Nat} {y : Str} {py : Pos} {kx vx tg iter : Expr} {ifs : List Expr} {scope : Scope} {own : List (Str × Nat)} {pos spos : Pos} {wi : TI} {g : TG} {tt : TT} {tk tv : TE} (hc : X.calm = true) (nN : X.N.Nodup) (ny : X.N[i]? = some y) (ly : X.env.scope.names.lookup y = some .local)
    (sw : swapsWith (.DictComp kx vx [⟨tg, iter, ifs, 0⟩] scope pos) (some (.Name y py)) spos.line X.env = pure true) (hi : PI X tg iter wi) (bo : BlkOk X.N X.env.scope scope own)
    (pg : ∀ (t : Shared) (G : Hp) (C : Addr) (cl : List (Str × Addr)) (fp : List Addr), PG (X.blk t G scope (compEnvC scope cl C X.env) fp) tg g) (pt : ∀ (t : Shared) (G : Hp) (C : Addr) (cl : List (Str × Addr)) (fp : List Addr), PTs (X.blk t G scope (compEnvC scope cl C X.env) fp) ifs tt)
    (pk : ∀ (t : Shared) (G : Hp) (C : Addr) (cl : List (Str × Addr)) (fp : List Addr), PE (X.blk t G scope (compEnvC scope cl C X.env) fp) kx tk) (pe : ∀ (t : Shared) (G : Hp) (C : Addr) (cl : List (Str × Addr)) (fp : List Addr), PE (X.blk t G scope (compEnvC scope cl C X.env) fp) vx tv)
    (fs : ∀ x, foldedSetIterable iter X.env x = pure x := by intro _; rfl) : PS X (.Assign [.Name y py] (.DictComp kx vx [⟨tg, iter, ifs, 0⟩] scope pos) spos) (tAsg (tDc wi g tt tk tv (own.map (·.2))) (gName i)) := by
  refine ⟨fun pins s σ H D I w => ?_⟩
  rw [exec_Assign_Name_used _ _ _ _ sw]
  refine wpAny_bind (wpAny_standAt (wpAny_bind ?_))
  show wpAny _ X.A (do let _ ← comprehension (.DictComp kx vx [⟨tg, iter, ifs, 0⟩] scope pos) scope X.env (firstIterPos [⟨tg, iter, ifs, 0⟩] pos) newDict false (eval iter X.env) (some (assign (.Name y py) X.env))) _ _ s
  have w2 : tDc wi g tt tk tv (own.map (·.2)) σ H (fun x H1 => gName i x σ H1 D.nx) := w
  refine wpAny_bind (thn (dc_core (Qf := fun _ s' => SP X pins D .next s') hc nN I hi bo pg pt pk pe fs w2 fun L C t m G J qq ns fo => ?_) fun _ t qq => wpAny_pure (wpAny_pure qq))
  show wpAny _ _ (assign (.Name y py) X.env (.ref L)) _ _ _
  obtain ⟨z0, z1, z2, z3, z4, z5⟩ := fo
  refine wpAny_assign_Name (store_ok2 (v := V.ref L) J nN ny (.inl ly) rfl (fun u Iu ⟨a, sb, ha⟩ => ?_) (.inr ly))
  have nCa : C ≠ a := ha.elim (fun e => by rw [e]; exact z1) (fun e q => z4 y a e q.symm)
  exact ⟨m, ns.sameBut sb nCa, fun h3 sb3 => ⟨_, G, Iu.turned (t' := u.toks) (fun b o hb e => (sb3.2 b hb).trans e) z0 z1 z3 z4 z5, qq⟩⟩
theorem sw_dict {kx vx : Expr} {gs : List Comprehension} {scope : Scope} {pos py : Pos} {y : Str} {l : Nat} {env : Env} (hk : env.scope.kind = .function) (ly : env.scope.names.lookup y = some .local) (el : (py.line == pos.line) = true)
    (na : (scope.names.any fun (n, k) => n == y && (k == .local || k == .cell)) = false) : swapsWith (.DictComp kx vx gs scope pos) (some (.Name y py)) l env = pure true := by
  have e1 : env.kindOf y = some .local := ly
  have e2 : env.blockKind = .function := by
    unfold Env.blockKind
    rw [hk]
    rfl
  unfold swapsWith
  simp only [e1, e2, na, Expr.pos, el]
  rfl
end
theorem fdiv_lt {i j : Int} {m : Nat} (h : i.natAbs < 2 ^ m) : (i.fdiv j).natAbs ≤ 2 ^ m := by
  have h1 : (i.fdiv j).natAbs ≤ i.natAbs + 1 := by
    have := Int.natAbs_fdiv_le_natAbs i j
    omega
  omega
theorem sm_all {v : Vec} (h : vsm v = true) {p : Int × Int} (hp : p ∈ v) : p.2.natAbs < 2 ^ 2000 := by
  unfold vsm at h
  rw [Bool.and_eq_true, List.all_eq_true] at h
  exact sm_lt (h.2 p hp)
theorem vsm_len {v : Vec} (h : vsm v = true) : v.length ≤ 2000 := by
  unfold vsm at h
  rw [Bool.and_eq_true, decide_eq_true_eq] at h
  exact h.1
/-- all within so many bits -/
def Bd (n : Nat) (v : Vec) : Prop := ∀ p ∈ v, p.2.natAbs < 2 ^ n
theorem bd_of {v : Vec} (h : vsm v = true) : Bd 2000 v := fun p hp => sm_all h hp
theorem Bd.get {n : Nat} {v : Vec} (h : Bd n v) {k x : Int} (e : vget v k = some x) : x.natAbs < 2 ^ n := by
  induction v with
  | nil => cases e
  | cons p r ih =>
    rw [vget_cons] at e
    by_cases z : p.1 = k
    · rw [if_pos z] at e
      cases e
      exact h p List.mem_cons_self
    · rw [if_neg z] at e
      exact ih (fun q hq => h q (List.mem_cons_of_mem _ hq)) e
end FC
set_option Elab.async false
set_option linter.all false
set_option maxRecDepth 100000
set_option maxHeartbeats 4000000
/-! Sums of vectors: what the program's defs give. -/
namespace FC
open PySem PySem.Spec PyProof.Rows L2
/-- a blend, at t -/
def BldAt (K : PySem.W.Frag) (H : Hp) (t : Addr) (b : Bld) : Prop := ∃ d, SqT K H t [.ref d, .int b.2] ∧ VecF H d b.1
theorem BldAt.same {K : PySem.W.Frag} {H H' : Hp} {t : Addr} {b : Bld} (h : BldAt K H t b) (s : Same H H') : BldAt K H' t b := by
  obtain ⟨d, h1, h2⟩ := h
  exact ⟨d, sqt_same s h1, h2.same s⟩
def spOnly (K : PySem.W.Frag) : Sp := fun vs H Q _ => ∃ k : Int, vs = [.int k] ∧ ∀ (t : Addr) H', Same H H' → BldAt K H' t (only k) → Q (.ref t) H'
def spNz (K : PySem.W.Frag) : Sp := fun vs H Q _ => ∃ (a : Addr) (v : Vec), vs = [.ref a] ∧ VecAt H a v ∧ v.length < 1000000 ∧ ∀ (t : Addr) H', H t = none → Same H H' → H' t = some (.dK (kvs (nz v))) → Dst (nz v) → Q (.ref t) H'
def spDivisor (K : PySem.W.Frag) : Sp := fun vs H Q _ => ∃ (a : Addr) (v : Vec), vs = [.ref a] ∧ VecAt H a v ∧ ∀ H', Same H H' → Q (.int (vdivisor v)) H'
def spDivided (K : PySem.W.Frag) : Sp := fun vs H Q _ => ∃ (a : Addr) (v : Vec) (b : Int), vs = [.ref a, .int b] ∧ VecAt H a v ∧ v.length < 1000000 ∧ 0 < b ∧ b.natAbs < 2 ^ 9000 ∧ ∀ (t : Addr) H', H t = none → Same H H' → VecF H' t (vdivided v b) → Q (.ref t) H'
section
variable {P : Program} {w : World} {K : PySem.W.Frag} {mg : Str → Option Value} {base : Heap}
theorem scOnly : FnScope ["key"] ["key"] (defScope sOnly) := ⟨rfl, rfl, rfl, by decide +kernel, rfl, by decide +kernel, by decide +kernel⟩
theorem ok_only {f : Addr} {fd : FuncData} (F : Fun K "only" "only" sOnly f fd) : FnOk P w K mg base CX0 1 f fd ["key"] (spOnly K) := by
  refine F.ok scOnly (fun vs H Q E h => ?_) (fun cdv A outer s H vs Q E hr h => ?_)
  · obtain ⟨k, rfl, _⟩ := h
    rfl
  · obtain ⟨k, rfl, q⟩ := h
    refine ⟨_, pss_one (ps_ret (pe_tup (pa_cons (pe_frz (pe_disp (pps_cons (pv 0) pe_int pps_nil) rfl rfl (by simp) (by decide))) (pa_cons pe_int pa_nil)))), ?_⟩
    intro p hp
    refine ⟨_, rfl, upd_same, [(.inl k, .int 1)], rfl, (by show 1 ≤ 15; omega), .inr ⟨p, _, rfl, upd_same, True.intro, fun o => ⟨(by show 2 ≤ sizeLine; decide), fun t ht => ?_⟩⟩⟩
    rw [upd_upd, upd_upd] at ht ⊢
    have s1 := same_upd (o := .frz o (.dK (mergeK [] [(Sum.inl k, V.int 1)]))) (Same.refl H) hp
    have s2 := same_upd (o := .tup [V.ref p, .int 1]) (Same.refl (upd H p (.frz o (.dK (mergeK [] [(Sum.inl k, V.int 1)]))))) ht
    refine q t _ (Same.trans s1 s2) ⟨p, sqt_new, ?_⟩
    exact VecF.same (v := [(k, 1)]) ⟨⟨o, upd_same⟩, by unfold Dst; simp⟩ s2
theorem scNz : FnScope ["vector", "key", "number"] ["vector"] (defScope sNz) := ⟨rfl, rfl, rfl, by decide +kernel, rfl, by decide +kernel, by decide +kernel⟩
theorem ok_nz {f : Addr} {fd : FuncData} (F : Fun K "without_zeros" "without_zeros" sNz f fd) : FnOk P w K mg base CX0 1 f fd ["vector"] (spNz K) := by
  refine F.ok scNz (fun vs H Q E h => ?_) (fun cdv A outer s H vs Q E hr h => ?_)
  · obtain ⟨a, v, rfl, _⟩ := h
    rfl
  · obtain ⟨a, v, rfl, hv, hl, q⟩ := h
    have nd := scNz.nd
    refine ⟨_, pss_one (ps_ret (pe_lk (pe_dc (own := [("key", 1), ("number", 2)]) (g := gTup K 2 (gCons (gName 1) (gCons (gName 2) gNil))) rfl nd (pi_items (pv 0)) (blkOk_by (own := [("key", 1), ("number", 2)]) (N := ["vector", "key", "number"]) (sc := defScope sNz) (by decide +kernel))
      (fun _ _ _ _ _ => pg_tup rfl (pgs_cons (pg_name (i := 1) nd rfl (Or.inl rfl)) (pgs_cons (pg_name (i := 2) nd rfl (Or.inl rfl)) pgs_nil)))
      (fun _ _ _ _ _ => pts_one (pt_cmp (pc_neI (pv 2) pe_int))) (fun _ _ _ _ _ => pv 1) (fun _ _ _ _ _ => pv 2)))), ?_⟩
    refine items_dc (fun p => !decide (p.2 = 0)) id rfl hv (by rw [sizeLine_eq]; omega) ?_ ?_ ?_
    · rw [List.map_id]
      exact hv.2.filter _
    · intro k x H2 T Nx D hm hT hs hD h0 h1
      obtain ⟨us, hus, hlu⟩ := hD
      refine ⟨T, [.int k, .int x], rfl, SqT.of hT, rfl, _, _, rfl, _, _, rfl, rfl, rfl, _, rfl, x, 0, rfl, rfl, _, rfl, ?_⟩
      show if (!decide (x = 0)) = true then _ else _
      refine ite2 (fun hb => ?_) (fun hb => ?_)
      · have hx : (!decide (x = 0)) = true := by simpa using hb
        exact ⟨_, rfl, _, rfl, us, .inl k, rfl, hus, hlu, h1 hx us hus⟩
      · have hx : (!decide (x = 0)) = false := by simpa using hb
        exact h0 hx
    · intro D H' hD s1 hv' e
      rw [List.map_id] at hv' e
      exact q D H' hD s1 e hv'.2
theorem scDivisor : FnScope ["vector", "common", "number"] ["vector"] (defScope sDivisor) := ⟨rfl, rfl, rfl, by decide +kernel, rfl, by decide +kernel, by decide +kernel⟩
theorem ok_divisor {f : Addr} {fd : FuncData} (F : Fun K "divisor" "divisor" sDivisor f fd) (mG : mg "gcd" = some (.builtin "math.gcd")) : FnOk P w K mg base CX0 1 f fd ["vector"] (spDivisor K) := by
  refine F.ok scDivisor (fun vs H Q E h => ?_) (fun cdv A outer s H vs Q E hr h => ?_)
  · obtain ⟨a, v, rfl, _⟩ := h
    rfl
  · obtain ⟨a, v, rfl, hv, q⟩ := h
    have nd := scDivisor.nd
    refine ⟨_, pss_cons (ps_set (i := 1) nd rfl (Or.inl rfl) pe_int)
      (pss_cons (ps_lk (ps_for PassesOwn.never rfl (pi_values (pv 0)) (pg_name (i := 2) nd rfl (Or.inl rfl)) (pss_one (ps_set (i := 1) nd rfl (Or.inl rfl) (pe_callBfun cr_gcd (by rfl) mG (pa_cons (pv 1) (pa_cons (pv 2) pa_nil)))))))
      (pss_one (ps_ret (pv 1)))), ?_⟩
    refine lk_open hv.1 fun Hl U o E l hl hE => ?_
    refine ⟨_, rfl, a, o, kvs v, rfl, hl, ?_⟩
    refine for_it (walk_values (d := a) (o := o) (kvs := kvs v)) (fun i σ H' => H' = Hl ∧ ∃ y, σ = [some (.ref a), some (.int (vdivisor (v.take i))), y]) ⟨rfl, none, rfl⟩ (fun i σ H' _ p => by rw [p.1]; exact hl) ?_ ?_
    · rintro i x σ H1 H2 hi ⟨rfl, y, rfl⟩ ⟨rfl, k, hk⟩
      obtain ⟨n, hn, rfl⟩ : ∃ n : Int, (v[i]?.map (·.2)) = some n ∧ x = .int n := by
        rw [List.getElem?_map] at hk
        cases e : v[i]? with
        | none => rw [e] at hk; cases hk
        | some p =>
          rw [e] at hk
          have hk := Option.some.inj hk
          exact ⟨p.2, rfl, (congrArg Prod.snd hk).symm⟩
      obtain ⟨p, hp, rfl⟩ := Option.map_eq_some_iff.mp hn
      refine ⟨_, rfl, _, rfl, _, _, rfl, rfl, some (.int p.2), ?_⟩
      rw [take_succ_get hp]
      have : vdivisor (v.take i ++ [p]) = ((Nat.gcd (vdivisor (v.take i)).natAbs p.2.natAbs : Nat) : Int) := by
        unfold vdivisor
        rw [List.foldl_append]
        rfl
      rw [this]
      rfl
    · rintro σ H' ⟨rfl, y, rfl⟩
      rw [List.length_map, List.take_length]
      refine hE.nx _ _ rfl ⟨_, rfl, ?_⟩
      exact q _ (l.same (Same.refl H') rfl)
theorem scDivided : FnScope ["vector", "by", "key", "number"] ["vector", "by"] (defScope sDivided) := ⟨rfl, rfl, rfl, by decide +kernel, rfl, by decide +kernel, by decide +kernel⟩
theorem ok_divided {f : Addr} {fd : FuncData} (F : Fun K "divided" "divided" sDivided f fd) : FnOk P w K mg base CX0 1 f fd ["vector", "by"] (spDivided K) := by
  refine F.ok scDivided (fun vs H Q E h => ?_) (fun cdv A outer s H vs Q E hr h => ?_)
  · obtain ⟨a, v, b, rfl, _⟩ := h
    rfl
  · obtain ⟨a, v, b, rfl, hv, hl, hb, hbb, q⟩ := h
    have nd := scDivided.nd
    refine ⟨_, pss_one (ps_ret (pe_frz (pe_lk (pe_dc (own := [("key", 2), ("number", 3)]) (g := gTup K 2 (gCons (gName 2) (gCons (gName 3) gNil))) rfl nd (pi_items (pv 0)) (blkOk_by (own := [("key", 2), ("number", 3)]) (N := ["vector", "by", "key", "number"]) (sc := defScope sDivided) (by decide +kernel))
      (fun _ _ _ _ _ => pg_tup rfl (pgs_cons (pg_name (i := 2) nd rfl (Or.inl rfl)) (pgs_cons (pg_name (i := 3) nd rfl (Or.inl rfl)) pgs_nil)))
      (fun _ _ _ _ _ => pts_nil) (fun _ _ _ _ _ => pv 2) (fun _ _ _ _ _ => pe_op op_fdivA (pv 3) (pv 1)))))), ?_⟩
    refine items_dc (fun p => true) (fun p => (p.1, p.2 / b)) rfl hv (by rw [sizeLine_eq]; omega) ?_ ?_ ?_
    · exact (hv.2.filter _).mapv _
    · intro k x H2 T Nx D hm hT hs hD h0 h1
      obtain ⟨us, hus, hlu⟩ := hD
      refine ⟨T, [.int k, .int x], rfl, SqT.of hT, rfl, _, _, rfl, _, _, rfl, rfl, rfl, ?_⟩
      refine ⟨_, rfl, _, rfl, _, rfl, x, b, rfl, rfl, ⟨Int.ne_of_gt hb, hbb⟩, us, .inl k, rfl, hus, hlu, ?_⟩
      show Nx (upd H2 D (HO.dK (putK us (Sum.inl k) (V.int (x.fdiv b)))))
      rw [Int.fdiv_eq_ediv_of_nonneg x (Int.le_of_lt hb)]
      exact h1 rfl us hus
    · intro D H' hD s1 hv' e
      have ee : (v.filter fun _ => true).map (fun p => (p.1, p.2 / b)) = vdivided v b := by rw [List.filter_eq_self.mpr (fun _ _ => rfl)]; rfl
      rw [ee] at hv' e
      refine .inr ⟨D, _, rfl, e, True.intro, fun o => q D _ hD (fun b ob hb => ?_) ⟨⟨o, upd_same⟩, hv'.2⟩⟩
      rw [upd_ne (ne_of_none hb hD)]
      exact s1 _ _ hb
end
end FC
set_option Elab.async false
set_option linter.all false
set_option maxRecDepth 100000
set_option maxHeartbeats 4000000
/-! add_to, combined, shortened. -/
namespace FC
open PySem PySem.Spec PyProof.Rows L2
def spAddTo (K : PySem.W.Frag) : Sp := fun vs H Q _ => ∃ (t a : Addr) (tv v : Vec) (x : Int), vs = [.ref t, .ref a, .int x] ∧ H t = some (.dK (kvs tv)) ∧ VecAt H a v ∧ t ≠ a ∧ tv.length + v.length < 1000000 ∧ Bd 20000 v ∧ x.natAbs < 2 ^ 20000 ∧
  ∀ H', (∀ b o, b ≠ t → H b = some o → H' b = some o) → H' t = some (.dK (kvs (vaddTo tv v x))) → Q .non H'
section
variable {P : Program} {w : World} {K : PySem.W.Frag} {mg : Str → Option Value} {base : Heap}
theorem scAddTo : FnScope ["total", "vector", "times", "key", "number"] ["total", "vector", "times"] (defScope sAddTo) := ⟨rfl, rfl, rfl, by decide +kernel, rfl, by decide +kernel, by decide +kernel⟩
theorem vadd_snoc (t v : Vec) (p : Int × Int) (x : Int) : vaddTo t (v ++ [p]) x = vput (vaddTo t v x) p.1 ((vget (vaddTo t v x) p.1).getD 0 + x * p.2) := by
  unfold vaddTo
  rw [List.foldl_append]
  rfl
theorem hu_of {n : Nat} {A : Around} (hr : Room n A) : A.units + 1 < cLine := by
  have := hr.un
  omega
theorem getD_int (o : Option Int) (n : Int) : (o.map V.int).getD (.int n) = .int (o.getD n) := by cases o <;> rfl
theorem ok_addTo {f : Addr} {fd : FuncData} (F : Fun K "add_to" "add_to" sAddTo f fd) : FnOk P w K mg base CX0 1 f fd ["total", "vector", "times"] (spAddTo K) := by
  refine F.ok scAddTo (fun vs H Q E h => ?_) (fun cdv A outer s H vs Q E hr h => ?_)
  · obtain ⟨t, a, tv, v, x, rfl, _⟩ := h
    rfl
  · obtain ⟨t, a, tv, v, x, rfl, ht, hv, hta, hl, hb, hx, q⟩ := h
    have nd := scAddTo.nd
    refine ⟨_, pss_one (ps_lk (ps_for PassesOwn.never rfl (pi_items (pv 1)) (pg_tup rfl (pgs_cons (pg_name (i := 3) nd rfl (Or.inl rfl)) (pgs_cons (pg_name (i := 4) nd rfl (Or.inl rfl)) pgs_nil)))
      (pss_one (ps_dput (hu_of hr) (pv 0) (pv 3) (pe_op op_add (pe_dget2 (hu_of hr) (pv 0) (pv 3) pe_int ⟨rfl, rfl, rfl, rfl⟩) (pe_op op_mulW (pv 2) (pv 4))) rfl)))), ?_⟩
    refine items_for (v := v) rfl hv fun Hl U l hvl hnl => ⟨fun n σ H' => H' a = Hl a ∧ (∃ y z, σ = [some (.ref t), some (.ref a), some (.int x), y, z]) ∧ (∀ b o, b ≠ t → Hl b = some o → H' b = some o) ∧ H' t = some (.dK (kvs (vaddTo tv (v.take n) x))), ?_, ?_, ?_, ?_⟩
    · refine ⟨rfl, ⟨none, none, rfl⟩, fun b o _ h => h, ?_⟩
      rw [l.off t hta]
      exact ht
    · exact fun n σ H' p => p.1
    · rintro n k y σ H1 T E1 hp ⟨p1, ⟨y1, y2, rfl⟩, p3, p4⟩ hT hnx hct
      have hTa : T ≠ a := fun z => hnl (by rw [← p1, ← z]; exact hT)
      have hTt : T ≠ t := fun z => by rw [z, p4] at hT; cases hT
      have e4 : upd H1 T (.tup [.int k, .int y]) t = some (.dK (kvs (vaddTo tv (v.take n) x))) := (upd_ne hTt.symm).trans p4
      have hsz : 1000001 < sizeLine := by rw [sizeLine_eq]; omega
      have hlen : (kvs (vaddTo tv (v.take n) x)).length < sizeLine := by
        have h1 := vadd_len (v.take n) tv x
        have h2 : (v.take n).length ≤ v.length := by rw [List.length_take]; omega
        rw [List.length_map]
        omega
      have hm : (k, y) ∈ v := List.mem_of_getElem? hp
      refine ⟨T, [.int k, .int y], rfl, sqt_new, rfl, _, _, rfl, _, _, rfl, rfl, ?_⟩
      have hg : DGet (upd H1 T (.tup [.int k, .int y])) t (.int k) ((vget (vaddTo tv (v.take n) x) k).map V.int) := .inl ⟨_, .inl k, .inl e4, rfl, (valV_kvs _ k).symm⟩
      refine ⟨_, rfl, t, rfl, .inl ⟨_, .inl e4⟩, _, rfl, _, hg, _, rfl, _, rfl, x, y, rfl, rfl, wide_mul hx (hb _ hm) (by decide) (by decide) (by decide), (vget (vaddTo tv (v.take n) x) k).getD 0, x * y, getD_int _ _, rfl, _, rfl, _, rfl, t, _, rfl, DPut.k (k := .inl k) e4 hlen, ?_⟩
      rw [hnx]
      refine ⟨?_, ⟨_, _, rfl⟩, fun b o hb2 h => ?_, ?_⟩
      · rw [upd_ne hta.symm, upd_ne hTa.symm]
        exact p1
      · rw [upd_ne hb2, upd_ne (fun z => by rw [z] at h; rw [p3 T o hTt h] at hT; cases hT)]
        exact p3 b o hb2 h
      · rw [upd_same, take_succ_get hp, vadd_snoc, putK_kvs]
    · rintro σ H' ⟨p1, _, p3, p4⟩
      rw [List.take_length] at p4
      refine q _ (fun b o hb h => ?_) ((l.back H' t hta).trans p4)
      by_cases z : b = a
      · subst z
        rw [l.at_ H' p1]
        exact h
      · rw [l.back H' b z]
        exact p3 b o hb (by rw [l.off b z]; exact h)
/-! ### combined -/
def spCombined (K : PySem.W.Frag) : Sp := fun vs H Q _ => ∃ (a b : Addr) (v o : Vec) (x y : Int), vs = [.ref a, .int x, .ref b, .int y] ∧ VecAt H a v ∧ VecAt H b o ∧ v.length + o.length < 1000000 ∧ Bd 2000 v ∧ Bd 2000 o ∧ x.natAbs < 2 ^ 2000 ∧ y.natAbs < 2 ^ 2000 ∧
  ∀ (t : Addr) H', H t = none → Same H H' → VecF H' t (vcombined v x o y) → Q (.ref t) H'
theorem Bd.nz {n : Nat} {v : Vec} (h : Bd n v) : Bd n (nz v) := fun p hp => h p (List.mem_filter.mp hp).1
theorem Bd.put {n : Nat} {v : Vec} (h : Bd n v) {k x : Int} (hx : x.natAbs < 2 ^ n) : Bd n (vput v k x) := fun p hp => by
  unfold vput at hp
  split at hp
  · obtain ⟨q, hq, e⟩ := List.mem_map.mp hp
    by_cases z : q.1 = k
    · rw [if_pos z] at e
      rw [← e]
      exact hx
    · rw [if_neg z] at e
      rw [← e]
      exact h q hq
  · rcases List.mem_append.mp hp with z | z
    · exact h p z
    · rw [List.mem_singleton.mp z]
      exact hx
theorem Bd.times {n m : Nat} {v : Vec} (h : Bd n v) {x : Int} (hx : x.natAbs < 2 ^ m) : Bd (n + m) (vtimes v x) := fun p hp => by
  obtain ⟨q, hq, rfl⟩ := List.mem_map.mp hp
  exact wide_lt (h q hq) hx
theorem bits_add {x y : Int} {n : Nat} (hx : x.natAbs < 2 ^ n) (hy : y.natAbs < 2 ^ n) : (x + y).natAbs < 2 ^ (n + 1) := by
  have h1 := Int.natAbs_add_le x y
  rw [Nat.pow_succ]
  omega
theorem vget_put (v : Vec) (k x j : Int) : vget (vput v k x) j = if j = k then some x else vget v j := by
  have h := valV_put (kvs v) (Sum.inl k) (Sum.inl j) (V.int x)
  rw [putK_kvs, valV_kvs, valV_kvs] at h
  by_cases e : j = k
  · rw [if_pos (by rw [e])] at h
    rw [if_pos e]
    cases z : vget (vput v k x) j with
    | none => rw [z] at h; cases h
    | some y => rw [z] at h; injection h with h; injection h with h; rw [h]
  · rw [if_neg (fun z => e (Sum.inl.inj z))] at h
    rw [if_neg e]
    cases z : vget (vput v k x) j with
    | none =>
      cases z2 : vget v j with
      | none => rfl
      | some y => rw [z, z2] at h; cases h
    | some y =>
      cases z2 : vget v j with
      | none => rw [z, z2] at h; cases h
      | some u => rw [z, z2] at h; injection h with h; injection h with h; rw [h]
theorem vget_none {v : Vec} {k : Int} (h : k ∉ v.map (·.1)) : vget v k = none := by
  induction v with
  | nil => rfl
  | cons p r ih =>
    rw [List.map_cons, List.mem_cons, not_or] at h
    rw [vget_cons, if_neg (fun z => h.1 z.symm), ih h.2]
theorem vget_add : ∀ (o t : Vec) (y k : Int), Dst o → vget (vaddTo t o y) k = match vget o k with | none => vget t k | some z => some ((vget t k).getD 0 + y * z)
  | [], _, _, _, _ => rfl
  | p :: r, t, y, k, h => by
    unfold Dst at h
    rw [List.map_cons, List.nodup_cons] at h
    have ih := vget_add r (vput t p.1 ((vget t p.1).getD 0 + y * p.2)) y k h.2
    have e : vaddTo t (p :: r) y = vaddTo (vput t p.1 ((vget t p.1).getD 0 + y * p.2)) r y := rfl
    rw [e, ih, vget_cons, vget_put]
    by_cases z : p.1 = k
    · rw [if_pos z, if_pos z.symm]
      have hn : vget r k = none := vget_none (by rw [← z]; exact h.1)
      rw [hn, z]
    · rw [if_neg z, if_neg (fun q => z q.symm)]
theorem bd_get {n : Nat} {v : Vec} (d : Dst v) (h : ∀ k x, vget v k = some x → x.natAbs < 2 ^ n) : Bd n v := fun p hp => by
  obtain ⟨i, hi⟩ := List.getElem?_of_mem hp
  exact h p.1 p.2 (d.get hi)
theorem Bd.add {n m : Nat} {t o : Vec} {y : Int} (dt : Dst t) (d : Dst o) (ht : Bd n t) (ho : Bd m o) {l : Nat} (hy : y.natAbs < 2 ^ l) (hl : l + m ≤ n) : Bd (n + 1) (vaddTo t o y) := by
  refine bd_get (vadd_dst o t y dt) fun k x hx => ?_
  rw [vget_add o t y k d] at hx
  have up : 2 ^ n < 2 ^ (n + 1) := Nat.pow_lt_pow_right (by decide) (Nat.lt_succ_self n)
  cases z : vget o k with
  | none =>
    rw [z] at hx
    exact Nat.lt_trans (ht.get hx) up
  | some u =>
    rw [z] at hx
    obtain rfl : (vget t k).getD 0 + y * u = x := Option.some.inj hx
    refine bits_add ?_ (Nat.lt_of_lt_of_le (wide_lt hy (ho.get z)) (Nat.pow_le_pow_right (by decide) hl))
    cases z2 : vget t k with
    | none => exact Nat.two_pow_pos n
    | some a => exact ht.get z2
theorem gcd_dvd_fold : ∀ (v : Vec) (c : Int), (v.foldl (fun c p => ((Nat.gcd c.natAbs p.2.natAbs : Nat) : Int)) c).natAbs ∣ c.natAbs ∧ (∀ p ∈ v, (v.foldl (fun c p => ((Nat.gcd c.natAbs p.2.natAbs : Nat) : Int)) c).natAbs ∣ p.2.natAbs)
  | [], c => ⟨Nat.dvd_refl _, fun p hp => nomatch hp⟩
  | q :: r, c => by
    rw [List.foldl_cons]
    obtain ⟨h1, h2⟩ := gcd_dvd_fold r ((Nat.gcd c.natAbs q.2.natAbs : Nat) : Int)
    rw [Int.natAbs_natCast] at h1
    refine ⟨Nat.dvd_trans h1 (Nat.gcd_dvd_left _ _), fun p hp => ?_⟩
    rcases List.mem_cons.mp hp with e | e
    · rw [e]
      exact Nat.dvd_trans h1 (Nat.gcd_dvd_right _ _)
    · exact h2 p e
theorem vdivisor_dvd {v : Vec} {p : Int × Int} (hp : p ∈ v) : (vdivisor v).natAbs ∣ p.2.natAbs := (gcd_dvd_fold v 0).2 p hp
theorem vdivisor_nonneg (v : Vec) : 0 ≤ vdivisor v := by
  have key : ∀ (v : Vec) (c : Int), 0 ≤ c → 0 ≤ v.foldl (fun c p => ((Nat.gcd c.natAbs p.2.natAbs : Nat) : Int)) c := fun v => by
    induction v with
    | nil => exact fun c h => h
    | cons q r ih => exact fun c _ => ih _ (Int.natCast_nonneg _)
  exact key v 0 (Int.le_refl _)
theorem vdivisor_pos {v : Vec} {p : Int × Int} (hp : p ∈ v) (h0 : p.2 ≠ 0) : 0 < vdivisor v ∧ (vdivisor v).natAbs ≤ p.2.natAbs := by
  have h1 := vdivisor_dvd hp
  have h2 := vdivisor_nonneg v
  have h3 : 0 < p.2.natAbs := Int.natAbs_pos.mpr h0
  have h4 := Nat.le_of_dvd h3 h1
  refine ⟨?_, h4⟩
  have h5 : (vdivisor v).natAbs ≠ 0 := fun z => by
    rw [z] at h1
    exact (Nat.ne_of_gt h3) (Nat.eq_zero_of_zero_dvd h1)
  omega
theorem nz_mem {v : Vec} {p : Int × Int} (h : p ∈ nz v) : p.2 ≠ 0 := by
  have := (List.mem_filter.mp h).2
  simpa using this
theorem scCombined : FnScope ["vector", "times", "other", "other_times", "total", "key", "number", "left"] ["vector", "times", "other", "other_times"] (defScope sCombined) := ⟨rfl, rfl, rfl, by decide +kernel, rfl, by decide +kernel, by decide +kernel⟩
theorem ok_combined {f : Addr} {fd : FuncData} (F : Fun K "combined" "combined" sCombined f fd) (CA : Cal P w K mg base CX0 1 "add_to" ["total", "vector", "times"] (spAddTo K)) (CZ : Cal P w K mg base CX0 1 "without_zeros" ["vector"] (spNz K)) (CV : Cal P w K mg base CX0 1 "divisor" ["vector"] (spDivisor K)) (CD : Cal P w K mg base CX0 1 "divided" ["vector", "by"] (spDivided K)) :
    FnOk P w K mg base CX0 2 f fd ["vector", "times", "other", "other_times"] (spCombined K) := by
  refine F.ok scCombined (fun vs H Q E h => ?_) (fun cdv A outer s H vs Q E hr h => ?_)
  · obtain ⟨a, b, v, o, x, y, rfl, _⟩ := h
    rfl
  · obtain ⟨a, b, v, o, x, y, rfl, hv, ho, hl, bv, bo, hx, hy, q⟩ := h
    have nd := scCombined.nd
    refine ⟨_, pss_cons (ps_lk (ps_setDc (i := 4) (own := [("key", 5), ("number", 6)]) (g := gTup K 2 (gCons (gName 5) (gCons (gName 6) gNil))) rfl nd rfl rfl (sw_dict rfl rfl rfl (by decide +kernel)) (pi_items (pv 0)) (blkOk_by (own := [("key", 5), ("number", 6)]) (N := ["vector", "times", "other", "other_times", "total", "key", "number", "left"]) (sc := defScope sCombined) (by decide +kernel))
        (fun _ _ _ _ _ => pg_tup rfl (pgs_cons (pg_name (i := 5) nd rfl (Or.inl rfl)) (pgs_cons (pg_name (i := 6) nd rfl (Or.inl rfl)) pgs_nil)))
        (fun _ _ _ _ _ => pts_nil) (fun _ _ _ _ _ => pv 5) (fun _ _ _ _ _ => pe_op op_mulW (pv 6) (pv 1))))
      (pss_cons (ps_expr (pe_cal CA hr pass0 (pa_cons (pv 4) (pa_cons (pv 2) (pa_cons (pv 3) pa_nil)))))
      (pss_cons (ps_set (i := 7) nd rfl (Or.inl rfl) (pe_cal CZ hr pass0 (pa_cons (pv 4) pa_nil)))
      (pss_one (ps_ret (pe_frz (pe_ifExp (pt_truth (pv 7) (fun _ => rfl)) (pe_cal CD hr pass0 (pa_cons (pv 7) (pa_cons (pe_cal CV hr pass0 (pa_cons (pv 7) pa_nil)) pa_nil))) (pv 7))))))), ?_⟩
    refine items_set (fun p => true) (fun p => (p.1, p.2 * x)) rfl hv (by rw [sizeLine_eq]; omega) ?_ ?_ ?_
    · exact (hv.2.filter _).mapv _
    · intro k z H2 T Nx D hm hT hs hD h0 h1
      obtain ⟨us, hus, hlu⟩ := hD
      refine ⟨T, [.int k, .int z], rfl, SqT.of hT, rfl, _, _, rfl, _, _, rfl, rfl, rfl, ?_⟩
      exact ⟨_, rfl, _, rfl, _, rfl, z, x, rfl, rfl, wide_mul (bv _ hm) hx (by decide) (by decide) (by decide), us, .inl k, rfl, hus, hlu, h1 rfl us hus⟩
    · intro D H1 hD s1 hv1 e1
      have ee : (v.filter fun _ => true).map (fun p => (p.1, p.2 * x)) = vtimes v x := by rw [List.filter_eq_self.mpr (fun _ _ => rfl)]; rfl
      rw [ee] at hv1 e1
      have hDb : D ≠ b := fun z => ho.some (by rw [← z]; exact hD)
      have bt : Bd 4000 (vtimes v x) := bv.times hx
      have ltv : (vtimes v x).length = v.length := List.length_map _
      have hl1 := vadd_len o (vtimes v x) y
      have hl2 : (nz (vaddTo (vtimes v x) o y)).length ≤ (vaddTo (vtimes v x) o y).length := List.length_filter_le _ _
      refine ⟨_, rfl, _, rfl, _, rfl, D, b, vtimes v x, o, y, rfl, e1, ho.same s1, hDb, by omega, fun p hp => Nat.lt_trans (bo p hp) (Nat.pow_lt_pow_right (by decide) (by decide)), Nat.lt_trans hy (Nat.pow_lt_pow_right (by decide) (by decide)), fun H2 f2 e2 => ?_⟩
      have s2 : Same H H2 := fun c oc hc => f2 c oc (ne_of_none hc hD) (s1 c oc hc)
      have d2 : Dst (vaddTo (vtimes v x) o y) := vadd_dst _ _ _ hv1.2
      have b2 : Bd 4001 (vaddTo (vtimes v x) o y) := Bd.add hv1.2 ho.2 bt bo hy (by decide)
      refine ⟨_, rfl, D, _, rfl, .of e2 d2, by omega, fun t H3 ht s3 e3 d3 => ?_⟩
      have htH : H t = none := by
        cases z : H t with
        | none => rfl
        | some oc => rw [s2 _ _ z] at ht; cases ht
      have s13 := Same.trans s2 s3
      refine ⟨_, rfl, _, .inr (.inr ⟨_, e3, rfl⟩), ?_⟩
      cases hz : nz (vaddTo (vtimes v x) o y) with
      | nil =>
        rw [hz] at e3 d3
        have ec : vcombined v x o y = [] := by
          unfold vcombined
          simp only [hz]
          rfl
        refine iteF ⟨_, rfl, .inr ⟨t, _, rfl, e3, True.intro, fun ob => q t _ htH (fun c oc hc => ?_) ⟨⟨ob, by rw [ec]; exact upd_same⟩, by rw [ec]; exact d3⟩⟩⟩
        rw [upd_ne (ne_of_none hc htH)]
        exact s13 _ _ hc
      | cons p r =>
        refine iteT ?_
        have hp : p ∈ nz (vaddTo (vtimes v x) o y) := by rw [hz]; exact List.mem_cons_self
        obtain ⟨g1, g2⟩ := vdivisor_pos hp (nz_mem hp)
        have g3 : (vdivisor (nz (vaddTo (vtimes v x) o y))).natAbs < 2 ^ 9000 := Nat.lt_of_le_of_lt g2 (Nat.lt_trans (b2.nz p hp) (Nat.pow_lt_pow_right (by decide) (by decide)))
        have ec : vcombined v x o y = vdivided (nz (vaddTo (vtimes v x) o y)) (vdivisor (nz (vaddTo (vtimes v x) o y))) := by
          unfold vcombined
          simp only
          rw [if_neg (by rw [hz]; simp)]
        refine ⟨_, rfl, _, rfl, t, _, rfl, .of e3 d3, fun H4 s4 => ⟨t, _, _, rfl, (VecAt.of e3 d3).same s4, by omega, g1, g3, fun t2 H5 ht2 s5 e5 => .inl ?_⟩⟩
        refine q t2 H5 ?_ (Same.trans (Same.trans s13 s4) s5) (by rw [ec]; exact e5)
        cases z : H t2 with
        | none => rfl
        | some oc => rw [s4 _ _ (s13 _ _ z)] at ht2; cases ht2
/-! ### shortened -/
def spShortened (K : PySem.W.Frag) : Sp := fun vs H Q _ => ∃ (a : Addr) (v : Vec) (c : Int), vs = [.ref a, .int c] ∧ VecAt H a v ∧ v.length < 1000000 ∧ 0 < c ∧ c.natAbs < 2 ^ 9000 ∧
  ∀ (t : Addr) H', Same H H' → BldAt K H' t (vshortened v c) → Q (.ref t) H'
theorem scShortened : FnScope ["parts", "scale", "left", "by"] ["parts", "scale"] (defScope sShortened) := ⟨rfl, rfl, rfl, by decide +kernel, rfl, by decide +kernel, by decide +kernel⟩
theorem ok_shortened {f : Addr} {fd : FuncData} (F : Fun K "shortened" "shortened" sShortened f fd) (mG : mg "gcd" = some (.builtin "math.gcd")) (CZ : Cal P w K mg base CX0 1 "without_zeros" ["vector"] (spNz K)) (CV : Cal P w K mg base CX0 1 "divisor" ["vector"] (spDivisor K)) (CD : Cal P w K mg base CX0 1 "divided" ["vector", "by"] (spDivided K)) :
    FnOk P w K mg base CX0 2 f fd ["parts", "scale"] (spShortened K) := by
  refine F.ok scShortened (fun vs H Q E h => ?_) (fun cdv A outer s H vs Q E hr h => ?_)
  · obtain ⟨a, v, c, rfl, _⟩ := h
    rfl
  · obtain ⟨a, v, c, rfl, hv, hl, hc, hcb, q⟩ := h
    have nd := scShortened.nd
    refine ⟨_, pss_cons (ps_set (i := 2) nd rfl (Or.inl rfl) (pe_cal CZ hr pass0 (pa_cons (pv 0) pa_nil)))
      (pss_cons (ps_set (i := 3) nd rfl (Or.inl rfl) (pe_callBfun cr_gcd (by rfl) mG (pa_cons (pe_cal CV hr pass0 (pa_cons (pv 2) pa_nil)) (pa_cons (pv 1) pa_nil))))
      (pss_one (ps_ret (pe_tup (pa_cons (pe_cal CD hr pass0 (pa_cons (pv 2) (pa_cons (pv 3) pa_nil))) (pa_cons (pe_op op_fdivA (pv 1) (pv 3)) pa_nil)))))), ?_⟩
    have hl2 : (nz v).length ≤ v.length := List.length_filter_le _ _
    refine ⟨_, rfl, a, v, rfl, hv, hl, fun t H1 ht s1 e1 d1 => ?_⟩
    refine ⟨_, rfl, t, _, rfl, .of e1 d1, fun H2 s2 => ?_⟩
    have g0 : 0 < Nat.gcd (vdivisor (nz v)).natAbs c.natAbs := Nat.gcd_pos_of_pos_right _ (by omega)
    have g1 : Nat.gcd (vdivisor (nz v)).natAbs c.natAbs ≤ c.natAbs := Nat.le_of_dvd (by omega) (Nat.gcd_dvd_right _ _)
    have g2 : ((Nat.gcd (vdivisor (nz v)).natAbs c.natAbs : Nat) : Int).natAbs < 2 ^ 9000 := by
      rw [Int.natAbs_natCast]
      exact Nat.lt_of_le_of_lt g1 hcb
    refine ⟨_, rfl, _, _, rfl, ?_⟩
    have e2 := s2 _ _ e1
    refine ⟨_, rfl, _, rfl, t, nz v, _, rfl, .of e2 d1, by omega, Int.natCast_pos.mpr g0, g2, fun d H3 hd s3 e3 => ?_⟩
    refine ⟨_, rfl, _, rfl, c, _, rfl, rfl, ⟨Int.ne_of_gt (Int.natCast_pos.mpr g0), g2⟩, ?_⟩
    refine ⟨(by show 2 ≤ sizeLine; decide), fun r hr => ?_⟩
    refine q r _ (Same.trans (Same.trans s1 s2) (same_upd s3 hr)) ⟨d, ?_, e3.same (same_upd (Same.refl H3) hr)⟩
    have ef : c.fdiv ((Nat.gcd (vdivisor (nz v)).natAbs c.natAbs : Nat) : Int) = (vshortened v c).2 := by
      rw [Int.fdiv_eq_ediv_of_nonneg c (Int.natCast_nonneg _)]
      rfl
    rw [← ef]
    exact sqt_new
end
end FC
set_option Elab.async false
set_option linter.all false
set_option maxRecDepth 100000
set_option maxHeartbeats 4000000
/-! blended. -/
namespace FC
open PySem PySem.Spec PyProof.Rows L2
theorem bnd_some {α β : Type} {o : Option α} {k : α → Option β} {r : β} : (o >>= k) = some r ↔ ∃ a, o = some a ∧ k a = some r := by
  cases o with
  | none => exact ⟨fun h => (nomatch h), fun ⟨a, h, _⟩ => (nomatch h)⟩
  | some x => exact ⟨fun h => ⟨x, rfl, h⟩, fun ⟨a, h, q⟩ => (by cases h; exact q)⟩
theorem grd_some {b : Bool} {u : Unit} : guardO b = some u ↔ b = true := by
  unfold guardO
  cases b
  · exact ⟨fun h => (nomatch h), fun h => (nomatch h)⟩
  · exact ⟨fun _ => rfl, fun _ => rfl⟩
theorem foldM_part {α β : Type} {f : β → α → Option β} {l : List α} {a r : β} (h : l.foldlM f a = some r) (i : Nat) : ∃ c, (l.take i).foldlM f a = some c := by
  conv at h => lhs; rw [← List.take_append_drop i l, List.foldlM_append]
  obtain ⟨c, h1, _⟩ := bnd_some.mp h
  exact ⟨c, h1⟩
theorem foldM_step {α β : Type} {f : β → α → Option β} {l : List α} {a r c : β} {i : Nat} {x : α} (h : l.foldlM f a = some r) (hx : l[i]? = some x) (hc : (l.take i).foldlM f a = some c) : ∃ c', f c x = some c' ∧ (l.take (i + 1)).foldlM f a = some c' := by
  obtain ⟨c', h'⟩ := foldM_part h (i + 1)
  refine ⟨c', ?_, h'⟩
  rw [take_succ_get hx, List.foldlM_append, hc] at h'
  have h' : (List.foldlM f c [x]) = some c' := h'
  rw [List.foldlM_cons] at h'
  obtain ⟨d, h1, h2⟩ := bnd_some.mp h'
  rw [List.foldlM_nil] at h2
  rw [h1]
  exact h2
/-- a list or a tuple of blends -/
def TblAt (K : PySem.W.Frag) (H : Hp) (t : Addr) (tb : List Bld) : Prop := ∃ xs : List V, (SqL K H t xs ∨ SqT K H t xs) ∧ ∀ (i : Nat) (b : Bld), tb[i]? = some b → ∃ a, xs[i]? = some (.ref a) ∧ BldAt K H a b
theorem sql_same' {K : PySem.W.Frag} {H H' : Hp} {a : Addr} {xs : List V} (e : Same H H') (h : SqL K H a xs) : SqL K H' a xs := sql_same e h
theorem TblAt.same {K : PySem.W.Frag} {H H' : Hp} {t : Addr} {tb : List Bld} (h : TblAt K H t tb) (s : Same H H') : TblAt K H' t tb := by
  obtain ⟨xs, h1, h2⟩ := h
  refine ⟨xs, h1.imp (sql_same s) (sqt_same s), fun i b hb => ?_⟩
  obtain ⟨a, e, k⟩ := h2 i b hb
  exact ⟨a, e, k.same s⟩
theorem TblAt.ix {K : PySem.W.Frag} {H : Hp} {t : Addr} {tb : List Bld} (h : TblAt K H t tb) {k : Int} {b : Bld} (e : at? tb k = some b) : ∃ a, BldAt K H a b ∧ ∀ Q : VK, Q (.ref a) H → rIx K (.ref t) (.int k) H Q := by
  unfold at? at e
  by_cases hk : 0 ≤ k
  · rw [if_pos hk] at e
    obtain ⟨xs, h1, h2⟩ := h
    obtain ⟨a, e1, e2⟩ := h2 _ _ e
    have e3 : atI xs k = some (.ref a) := by
      have := atI_nat (j := k.toNat) e1
      rw [Int.toNat_of_nonneg hk] at this
      exact this
    refine ⟨a, e2, fun Q q => ?_⟩
    rcases h1 with h1 | h1
    · exact .inl ⟨t, xs, k, _, rfl, rfl, h1, e3, q⟩
    · exact .inr (.inl ⟨t, xs, k, _, rfl, rfl, h1, e3, q⟩)
  · rw [if_neg hk] at e
    cases e
theorem TblAt.get {K : PySem.W.Frag} {H : Hp} {t : Addr} {tb : List Bld} (h : TblAt K H t tb) {k : Int} {b : Bld} (e : at? tb k = some b) : ∃ xs a, (SqL K H t xs ∨ SqT K H t xs) ∧ atI xs k = some (.ref a) ∧ BldAt K H a b := by
  unfold at? at e
  by_cases hk : 0 ≤ k
  · rw [if_pos hk] at e
    obtain ⟨xs, h1, h2⟩ := h
    obtain ⟨a, e1, e2⟩ := h2 _ _ e
    refine ⟨xs, a, h1, ?_, e2⟩
    have := atI_nat (j := k.toNat) e1
    rw [Int.toNat_of_nonneg hk] at this
    exact this
  · rw [if_neg hk] at e
    cases e
theorem ix_of {K : PySem.W.Frag} {H : Hp} {t : Addr} {xs : List V} {k : Int} {v : V} {Q : VK} (h : SqL K H t xs ∨ SqT K H t xs) (e : atI xs k = some v) (q : Q v H) : rIx K (.ref t) (.int k) H Q := by
  rcases h with h | h
  · exact .inl ⟨t, xs, k, _, rfl, rfl, h, e, q⟩
  · exact .inr (.inl ⟨t, xs, k, _, rfl, rfl, h, e, q⟩)
def spBlended (K : PySem.W.Frag) : Sp := fun vs H Q _ => ∃ (c t : Addr) (b : Bld) (tb : List Bld) (r : Bld), vs = [.ref c, .ref t] ∧ BldAt K H c b ∧ TblAt K H t tb ∧ blended b tb = some r ∧ ∀ (u : Addr) H', Same H H' → BldAt K H' u r → Q (.ref u) H'
section
variable {P : Program} {w : World} {K : PySem.W.Frag} {mg : Str → Option Value} {base : Heap}
abbrev NBld : List Str := ["blend", "table", "parts", "scale", "common", "key", "total", "number", "inner", "inner_scale"]
theorem scBlended : FnScope NBld ["blend", "table"] (defScope sBlended) := ⟨rfl, rfl, rfl, by decide +kernel, rfl, by decide +kernel, by decide +kernel⟩
theorem ok_blended {f : Addr} {fd : FuncData} (F : Fun K "blended" "blended" sBlended f fd) (mL : mg "lcm" = some (.builtin "math.lcm")) (CA : Cal P w K mg base CX0 1 "add_to" ["total", "vector", "times"] (spAddTo K)) (CS : Cal P w K mg base CX0 2 "shortened" ["parts", "scale"] (spShortened K)) :
    FnOk P w K mg base CX0 3 f fd ["blend", "table"] (spBlended K) := by
  refine F.ok scBlended (fun vs H Q E h => ?_) (fun cdv A outer s H vs Q E hr h => ?_)
  · obtain ⟨c, t, b, tb, r, rfl, _⟩ := h
    rfl
  · obtain ⟨c, t, b, tb, r, rfl, hb, ht, hm, q⟩ := h
    have nd := scBlended.nd
    have hr1 : Room 1 _ := hr.mono (by decide)
    refine ⟨_, pss_cons (ps_asg (pv 0) (pg_tup rfl (pgs_cons (pg_name (i := 2) nd rfl (Or.inl rfl)) (pgs_cons (pg_name (i := 3) nd rfl (Or.inl rfl)) pgs_nil))))
      (pss_cons (ps_set (i := 4) nd rfl (Or.inl rfl) pe_int)
      (pss_cons (ps_lk (ps_for PassesOwn.never rfl (pi_keys (pv 2)) (pg_name (i := 5) nd rfl (Or.inl rfl)) (pss_one (ps_set (i := 4) nd rfl (Or.inl rfl) (pe_callBfun cr_lcm (by rfl) mL (pa_cons (pv 4) (pa_cons (pe_ix ix_tup (pe_ix ix_seq (pv 1) (pv 5) (fun _ _ => rfl)) pe_int (fun _ _ => rfl)) pa_nil)))))))
      (pss_cons (ps_set (i := 6) nd rfl (Or.inl rfl) pe_dnewK)
      (pss_cons (ps_lk (ps_for PassesOwn.never rfl (pi_items (pv 2)) (pg_tup rfl (pgs_cons (pg_name (i := 5) nd rfl (Or.inl rfl)) (pgs_cons (pg_name (i := 7) nd rfl (Or.inl rfl)) pgs_nil)))
        (pss_cons (ps_asg (pe_ix ix_seq (pv 1) (pv 5) (fun _ _ => rfl)) (pg_tup rfl (pgs_cons (pg_name (i := 8) nd rfl (Or.inl rfl)) (pgs_cons (pg_name (i := 9) nd rfl (Or.inl rfl)) pgs_nil))))
        (pss_one (ps_expr (pe_cal CA hr1 pass0 (pa_cons (pv 6) (pa_cons (pv 8) (pa_cons (pe_op op_mulW (pv 7) (pe_op op_fdivA (pv 4) (pv 9))) pa_nil)))))))))
      (pss_one (ps_ret (pe_cal CS hr pass0 (pa_cons (pv 6) (pa_cons (pe_op op_mulW (pv 3) (pv 4)) pa_nil))))))))), ?_⟩
    obtain ⟨d, hbt, hbv⟩ := hb
    unfold blended at hm
    obtain ⟨common, hc1, hm⟩ := bnd_some.mp hm
    obtain ⟨_, hg1, hm⟩ := bnd_some.mp hm
    obtain ⟨total, hc2, hm⟩ := bnd_some.mp hm
    obtain ⟨_, hg2, hm⟩ := bnd_some.mp hm
    have hm : vshortened total (b.2 * common) = r := Option.some.inj hm
    have hg1 := grd_some.mp hg1
    have hg2 := grd_some.mp hg2
    rw [Bool.and_eq_true, Bool.and_eq_true, decide_eq_true_eq] at hg1
    obtain ⟨gc, gb, gb0⟩ := hg1
    refine ⟨_, rfl, c, _, rfl, hbt, rfl, _, _, rfl, _, _, rfl, rfl, ?_⟩
    obtain ⟨⟨o, hd⟩, hdst⟩ := hbv
    refine .inr ⟨_, rfl, d, o, rfl, .inl ⟨kvs b.1, hd, ?_⟩⟩
    refine for_it (walk_keys (d := d) (o := o) (kvs := kvs b.1)) (fun i σ H' => H' = H ∧ ∃ cm y, (b.1.take i).foldlM (bldC tb) 1 = some cm ∧ 0 < cm ∧ σ = [some (.ref c), some (.ref t), some (.ref d), some (.int b.2), some (.int cm), y, none, none, none, none])
      ⟨rfl, 1, none, rfl, by decide, rfl⟩ (fun i σ H' _ p => by rw [p.1]; exact hd) ?_ ?_
    · rintro i x σ H1 H2 hi ⟨rfl, cm, y, hcm, hpos, rfl⟩ ⟨rfl, k, v, hk, rfl⟩
      obtain ⟨n, z, hn, rfl⟩ : ∃ n z, b.1[i]? = some (n, z) ∧ k = .inl n := by
        rw [List.getElem?_map] at hk
        cases e : b.1[i]? with
        | none => rw [e] at hk; cases hk
        | some p =>
          rw [e] at hk
          have hk := Option.some.inj hk
          exact ⟨p.1, p.2, rfl, (congrArg Prod.fst hk).symm⟩
      obtain ⟨cm', h1, h2⟩ := foldM_step hc1 hn hcm
      unfold bldC at h1
      obtain ⟨t1, h3, h1⟩ := bnd_some.mp h1
      obtain ⟨_, h4, h1⟩ := bnd_some.mp h1
      have h1 : ilcm cm t1.2 = cm' := Option.some.inj h1
      have h4 := grd_some.mp h4
      rw [Bool.and_eq_true, Bool.and_eq_true, decide_eq_true_eq] at h4
      obtain ⟨g1, g2, g3⟩ := h4
      obtain ⟨xs, a1, hxs, hat, e1, f1, f2⟩ := ht.get h3
      refine ⟨_, rfl, _, rfl, _, rfl, ix_of hxs hat ⟨a1, _, 1, .int t1.2, rfl, rfl, f1, atI_nat (j := 1) rfl, cm, t1.2, rfl, ?_, ?_⟩⟩
      · have up : 2 ^ 2000 < 2 ^ 6000 := Nat.pow_lt_pow_right (by decide) (by decide)
        exact ⟨Nat.lt_trans (sm_lt g1) up, Nat.lt_trans (sm_lt g2) up⟩
      · refine ⟨rfl, cm', _, h2, ?_, by rw [← h1]; rfl⟩
        rw [← h1]
        refine Int.natCast_pos.mpr (Nat.lcm_pos ?_ ?_) <;> omega
    · rintro σ H' ⟨rfl, cm, y, hcm, hpos, rfl⟩
      rw [List.length_map, List.take_length, hc1] at hcm
      obtain rfl : common = cm := Option.some.inj hcm
      intro q0 hq0
      have s1 := same_upd (o := .dK []) (Same.refl H') hq0
      have eq0 : upd H' q0 (.dK []) q0 = some (.dK []) := upd_same
      have hqd : q0 ≠ d := fun z => by rw [z, hd] at hq0; cases hq0
      refine .inr ⟨_, rfl, d, o, kvs b.1, rfl, s1 _ _ hd, ?_⟩
      refine for_it (walk_items (d := d) (o := o) (kvs := kvs b.1)) (fun n σ G => ∃ tot y z u w, (b.1.take n).foldlM (bldT tb common) [] = some tot ∧ Dst tot ∧ σ = [some (.ref c), some (.ref t), some (.ref d), some (.int b.2), some (.int common), y, some (.ref q0), z, u, w] ∧ G q0 = some (.dK (kvs tot)) ∧ Same H' G)
        ⟨[], y, none, none, none, rfl, List.nodup_nil, rfl, eq0, s1⟩ (fun n σ G _ ⟨_, _, _, _, _, _, _, _, _, sG⟩ => sG _ _ hd) ?_ ?_
      · rintro n xv σ H5 H6 hn ⟨tot, y2, z2, u2, w2, htot, dt, rfl, p4, p5⟩ ⟨T, x1, x2, rfl, hT, rfl, e1', e2'⟩
        obtain ⟨k, x, hp, rfl, rfl⟩ := kvs_get e1' e2'
        obtain ⟨tot', h1, h2⟩ := foldM_step hc2 hp htot
        unfold bldT at h1
        obtain ⟨t1, h3, h1⟩ := bnd_some.mp h1
        obtain ⟨_, h4, h1⟩ := bnd_some.mp h1
        have h1 : vaddTo tot t1.1 (x * (common / t1.2)) = tot' := Option.some.inj h1
        have h4 := grd_some.mp h4
        rw [Bool.and_eq_true, Bool.and_eq_true, Bool.and_eq_true, decide_eq_true_eq] at h4
        obtain ⟨g1, g2, g3, g4, g5⟩ := h4
        have hTq : T ≠ q0 := fun z => by rw [z, p4] at hT; cases hT
        have s5 := same_upd (o := .tup [V.int k, V.int x]) p5 hT
        have e5 : upd H5 T (.tup [.int k, .int x]) q0 = some (.dK (kvs tot)) := (upd_ne hTq.symm).trans p4
        obtain ⟨xs, a1, hxs, hat, e1, f1, f2⟩ := ht.get h3
        have hqe : q0 ≠ e1 := fun z => f2.vec.some (by rw [← z]; exact hq0)
        have f1' := sqt_same s5 f1
        have f2' := f2.same s5
        refine ⟨T, [.int k, .int x], rfl, sqt_new, rfl, _, _, rfl, _, _, rfl, rfl, ?_⟩
        refine ⟨_, rfl, _, rfl, ix_of (hxs.imp (sql_same s5) (sqt_same s5)) hat ⟨a1, _, rfl, f1', rfl, _, _, rfl, _, _, rfl, rfl, ?_⟩⟩
        have bf : common.fdiv t1.2 = common / t1.2 := Int.fdiv_eq_ediv_of_nonneg _ (Int.le_of_lt g4)
        have bc : (common / t1.2).natAbs < 2 ^ 2000 := by
          refine Nat.lt_of_le_of_lt ?_ (sm_lt gc)
          have h1 : 0 ≤ common / t1.2 := Int.ediv_nonneg (Int.le_of_lt hpos) (Int.le_of_lt g4)
          have h2 : common / t1.2 ≤ common := Int.ediv_le_self _ (Int.le_of_lt hpos)
          clear gc gb g5 g3
          omega
        have up9 : 2 ^ 2000 < 2 ^ 9000 := Nat.pow_lt_pow_right (by decide) (by decide)
        have up20 : 2 ^ 4000 < 2 ^ 20000 := Nat.pow_lt_pow_right (by decide) (by decide)
        have up20' : 2 ^ 2000 < 2 ^ 20000 := Nat.pow_lt_pow_right (by decide) (by decide)
        refine ⟨_, rfl, _, rfl, _, rfl, _, rfl, _, rfl, common, t1.2, rfl, rfl, ⟨Int.ne_of_gt g4, Nat.lt_trans (sm_lt g5) up9⟩, x, common.fdiv t1.2, rfl, rfl, ?_, ?_⟩
        · rw [bf]
          exact wide_mul (sm_lt g3) bc (by decide) (by decide) (by decide)
        · rw [bf]
          have lt1 := vsm_len g1
          have lt2 := vsm_len g2
          refine ⟨q0, e1, tot, t1.1, x * (common / t1.2), rfl, e5, f2'.vec, hqe, by omega, fun p hp => Nat.lt_trans (bd_of g2 p hp) up20', Nat.lt_trans (wide_lt (sm_lt g3) bc) up20, fun H6 s6 e6 => ?_⟩
          refine ⟨tot', _, _, _, _, h2, ?_, rfl, by rw [← h1]; exact e6, fun b o hb => s6 b o (ne_of_none hb hq0) (s5 b o hb)⟩
          rw [← h1]
          exact vadd_dst _ _ _ dt
      · rintro σ G ⟨tot, y2, z2, u2, w2, htot, dt, rfl, e6, s6⟩
        rw [List.length_map, List.take_length, hc2] at htot
        obtain rfl : total = tot := Option.some.inj htot
        have lt1 := vsm_len hg2
        refine ⟨_, rfl, _, rfl, _, rfl, b.2, common, rfl, rfl, wide_mul (sm_lt gb) (sm_lt gc) (by decide) (by decide) (by decide), ?_⟩
        refine ⟨q0, total, b.2 * common, rfl, .of e6 dt, by omega, Int.mul_pos gb0 hpos, Nat.lt_trans (wide_lt (sm_lt gb) (sm_lt gc)) (Nat.pow_lt_pow_right (by decide) (by decide)), fun t2 H7 s7 h7 => ?_⟩
        rw [hm] at h7
        exact q t2 H7 (Same.trans s6 s7) h7
end
end FC
set_option Elab.async false
set_option linter.all false
set_option maxRecDepth 100000
set_option maxHeartbeats 4000000
/-! Spans in the heap; take_in. -/
namespace FC
open PySem PySem.Spec PyProof.Rows L2
abbrev spM (i : Nat) : Stmt := inClass sSpan i
abbrev Lns := List (Int × Vec × Addr)
abbrev lkv (x : Int × Vec × Addr) : Key × V := (Sum.inl x.1, V.ref x.2.2)
abbrev lsv (x : Int × Vec × Addr) : Int × Vec := (x.1, x.2.1)
def lput (L : Lns) (k : Int) (v : Vec) (a : Addr) : Lns := if (L.any fun x => decide (x.1 = k)) = true then L.map (fun x => if x.1 = k then (x.1, v, a) else x) else L ++ [(k, v, a)]
theorem any_lkv (L : Lns) (k : Int) : ((L.map lkv).any fun kv => decide (kv.1 = Sum.inl k)) = L.any fun x => decide (x.1 = k) := by
  rw [List.any_map]
  congr 1
  funext p
  show decide ((Sum.inl p.1 : Key) = Sum.inl k) = decide (p.1 = k)
  by_cases e : p.1 = k
  · rw [decide_eq_true e, decide_eq_true (by rw [e])]
  · rw [decide_eq_false e, decide_eq_false (fun z => e (Sum.inl.inj z))]
theorem any_lsv (L : Lns) (k : Int) : ((L.map lsv).any fun p => decide (p.1 = k)) = L.any fun x => decide (x.1 = k) := by
  rw [List.any_map]
  rfl
theorem putK_lkv (L : Lns) (k : Int) (v : Vec) (a : Addr) : putK (L.map lkv) (.inl k) (.ref a) = (lput L k v a).map lkv := by
  unfold putK lput
  rw [any_lkv]
  by_cases h : (L.any fun x => decide (x.1 = k)) = true
  · rw [if_pos h, if_pos h, List.map_map, List.map_map]
    refine List.map_congr_left fun p _ => ?_
    show (if (Sum.inl p.1 : Key) = Sum.inl k then ((Sum.inl p.1 : Key), V.ref a) else (Sum.inl p.1, V.ref p.2.2)) = lkv (if p.1 = k then (p.1, v, a) else p)
    by_cases e : p.1 = k
    · rw [if_pos (by rw [e]), if_pos e]
    · rw [if_neg (fun z => e (Sum.inl.inj z)), if_neg e]
  · rw [if_neg h, if_neg h, List.map_append]
    rfl
theorem lput_lsv (L : Lns) (k : Int) (v : Vec) (a : Addr) : (lput L k v a).map lsv = spnPut (L.map lsv) k v := by
  unfold lput spnPut
  rw [any_lsv]
  by_cases h : (L.any fun x => decide (x.1 = k)) = true
  · rw [if_pos h, if_pos h, List.map_map, List.map_map]
    refine List.map_congr_left fun p _ => ?_
    show lsv (if p.1 = k then (p.1, v, a) else p) = if p.1 = k then (p.1, v) else (p.1, p.2.1)
    by_cases e : p.1 = k
    · rw [if_pos e, if_pos e]
    · rw [if_neg e, if_neg e]
  · rw [if_neg h, if_neg h, List.map_append]
    rfl
theorem lput_mem {L : Lns} {k : Int} {v : Vec} {a : Addr} {x : Int × Vec × Addr} (h : x ∈ lput L k v a) : x ∈ L ∨ (x.2.1 = v ∧ x.2.2 = a) := by
  unfold lput at h
  split at h
  · obtain ⟨y, hy, e⟩ := List.mem_map.mp h
    by_cases z : y.1 = k
    · rw [if_pos z] at e
      rw [← e]
      exact .inr ⟨rfl, rfl⟩
    · rw [if_neg z] at e
      rw [← e]
      exact .inl hy
  · rcases List.mem_append.mp h with z | z
    · exact .inl z
    · rw [List.mem_singleton.mp z]
      exact .inr ⟨rfl, rfl⟩
theorem valV_lkv (L : Lns) (k : Int) : valV (L.map lkv) (.inl k) = (L.find? fun x => decide (x.1 = k)).map fun x => V.ref x.2.2 := by
  induction L with
  | nil => rfl
  | cons p r ih =>
    rw [List.map_cons]
    by_cases e : p.1 = k
    · rw [valV_pos (by show (Sum.inl p.1 : Key) = _; rw [e]), List.find?_cons, decide_eq_true e]
      rfl
    · rw [valV_neg (fun z => e (Sum.inl.inj z)), ih, List.find?_cons, decide_eq_false e]
theorem spnGet_lsv (L : Lns) (k : Int) : spnGet (L.map lsv) k = (L.find? fun x => decide (x.1 = k)).map fun x => x.2.1 := by
  induction L with
  | nil => rfl
  | cons p r ih =>
    unfold spnGet at ih ⊢
    rw [List.map_cons, List.lookup_cons, List.find?_cons]
    by_cases e : p.1 = k
    · rw [decide_eq_true e, ← e]
      show (match p.1 == p.1 with | true => _ | false => _) = _
      rw [beq_self_eq_true]
      rfl
    · rw [decide_eq_false e]
      show (match k == p.1 with | true => _ | false => _) = _
      rw [beq_eq_false_iff_ne.mpr (fun z => e z.symm)]
      exact ih
/-- a span, its lines at d -/
structure SpanAt (H : Hp) (C a d : Addr) (S : Spn) : Prop where
  ins : ∃ dx, H a = some (.ins C dx [("lines", .ref d)])
  lns : ∃ L : Lns, H d = some (.dK (L.map lkv)) ∧ L.map lsv = S ∧ ∀ x ∈ L, VecF H x.2.2 x.2.1
  nd : (S.map (·.1)).Nodup
/-- .. but that only d changed, and only frozen things of the new lines are told -/
def OffD (d : Addr) (H H' : Hp) : Prop := ∀ b o, b ≠ d → H b = some o → H' b = some o
theorem OffD.same {d : Addr} {H H' : Hp} (s : Same H H') : OffD d H H' := fun b o _ h => s b o h
theorem OffD.trans {d : Addr} {H H1 H2 : Hp} (x : OffD d H H1) (y : OffD d H1 H2) : OffD d H H2 := fun b o n h => y b o n (x b o n h)
theorem OffD.upd {d : Addr} {H H1 : Hp} {o : HO} (x : OffD d H H1) : OffD d H (upd H1 d o) := fun b ob n h => by
  rw [upd_ne n]
  exact x b ob n h
theorem VecF.off {d a : Addr} {H H' : Hp} {v : Vec} {o : HO} (h : VecF H a v) (s : OffD d H H') (hd : H d = some o) (nf : ∀ q u, o ≠ .frz q u) : VecF H' a v := by
  obtain ⟨⟨q, e⟩, ds⟩ := h
  exact ⟨⟨q, s a _ (fun z => by rw [z, hd] at e; exact nf _ _ (Option.some.inj e)) e⟩, ds⟩
theorem SpanAt.same {H H' : Hp} {C a d : Addr} {S : Spn} (h : SpanAt H C a d S) (s : Same H H') : SpanAt H' C a d S := by
  obtain ⟨⟨dx, h1⟩, ⟨L, h2, h3, h4⟩, h5⟩ := h
  exact ⟨⟨dx, s _ _ h1⟩, ⟨L, s _ _ h2, h3, fun x hx => (h4 x hx).same s⟩, h5⟩
/-- the class's facts -/
structure SpT (K : PySem.W.Frag) (C : Addr) : Prop where
  cl : Cls K C
  nl : NoAttr K C "lines"
theorem mapM_get {α β : Type} {f : α → Option β} : ∀ {l : List α} {r : List β}, l.mapM f = some r → r.length = l.length ∧ ∀ (i : Nat) (x : α), l[i]? = some x → ∃ y, f x = some y ∧ r[i]? = some y
  | [], r, h => by
    rw [List.mapM_nil] at h
    cases Option.some.inj h
    exact ⟨rfl, fun i x e => by simp at e⟩
  | a :: l, r, h => by
    rw [List.mapM_cons] at h
    obtain ⟨y, h1, h⟩ := bnd_some.mp h
    obtain ⟨ys, h2, h⟩ := bnd_some.mp h
    cases Option.some.inj h
    obtain ⟨h3, h4⟩ := mapM_get h2
    refine ⟨by rw [List.length_cons, List.length_cons, h3], fun i x e => ?_⟩
    cases i with
    | zero =>
      have e : a = x := by simpa using e
      subst e
      exact ⟨y, h1, rfl⟩
    | succ i => exact h4 i x (by simpa using e)
theorem spnPut_mid {A B : Spn} {k : Int} {v v' : Vec} (h1 : k ∉ A.map (·.1)) (h2 : k ∉ B.map (·.1)) : spnPut (A ++ (k, v) :: B) k v' = A ++ (k, v') :: B := by
  unfold spnPut
  have ha : ((A ++ (k, v) :: B).any fun p => decide (p.1 = k)) = true := by
    rw [List.any_append, List.any_cons, decide_eq_true rfl]
    simp
  have off : ∀ (Z : Spn), k ∉ Z.map (·.1) → Z.map (fun p => if p.1 = k then (p.1, v') else p) = Z := fun Z hz => by
    conv => rhs; rw [← List.map_id Z]
    refine List.map_congr_left fun p hp => ?_
    rw [if_neg (fun e => hz (List.mem_map.mpr ⟨p, hp, e⟩))]
    rfl
  rw [if_pos ha, List.map_append, List.map_cons, off A h1, off B h2, if_pos rfl]
end FC
set_option Elab.async false
set_option linter.all false
set_option maxRecDepth 100000
set_option maxHeartbeats 4000000
/-! take_in. -/
namespace FC
open PySem PySem.Spec PyProof.Rows L2
def spTakeIn (K : PySem.W.Frag) (C : Addr) : Sp := fun vs H Q _ => ∃ (a d ln : Addr) (lead : Int) (S S' : Spn) (line : Vec), vs = [.ref a, .int lead, .ref ln] ∧ SpanAt H C a d S ∧ VecAt H ln line ∧ takeIn S lead line = some S' ∧
  ∀ H', OffD d H H' → SpanAt H' C a d S' → Q .non H'
section
variable {P : Program} {w : World} {K : PySem.W.Frag} {mg : Str → Option Value} {base : Heap}
abbrev NTi : List Str := ["self", "lead", "line", "new", "key", "one"]
theorem scTakeIn : FnScope NTi ["self", "lead", "line"] (defScope (spM 3)) := ⟨rfl, rfl, rfl, by decide +kernel, rfl, by decide +kernel, by decide +kernel⟩
theorem find_of {L : Lns} {i : Nat} {x : Int × Vec × Addr} (nd : ((L.map lsv).map (·.1)).Nodup) (h : L[i]? = some x) : (L.find? fun y => decide (y.1 = x.1)) = some x := by
  induction L generalizing i with
  | nil => simp at h
  | cons p r ih =>
    rw [List.map_cons, List.map_cons, List.nodup_cons] at nd
    rw [List.find?_cons]
    cases i with
    | zero =>
      have h : p = x := by simpa using h
      rw [h, decide_eq_true rfl]
    | succ i =>
      have h : r[i]? = some x := by simpa using h
      have hm : x.1 ∈ (r.map lsv).map (·.1) := by
        rw [List.map_map]
        exact List.mem_map.mpr ⟨x, List.mem_of_getElem? h, rfl⟩
      have hne : ¬ p.1 = x.1 := fun e => nd.1 (by show p.1 ∈ _; rw [e]; exact hm)
      rw [decide_eq_false hne]
      exact ih nd.2 h
theorem spnPut_nd {S : Spn} {k : Int} {v : Vec} (h : (S.map (·.1)).Nodup) : ((spnPut S k v).map (·.1)).Nodup := by
  unfold spnPut
  by_cases e : (S.any fun p => decide (p.1 = k)) = true
  · rw [if_pos e, List.map_map]
    have : S.map ((fun x => x.1) ∘ fun p : Int × Vec => if p.1 = k then (p.1, v) else p) = S.map (·.1) := List.map_congr_left fun p _ => by
      show (if p.1 = k then (p.1, v) else p).1 = p.1
      split <;> rfl
    rw [this]
    exact h
  · rw [if_neg e, List.map_append, List.nodup_append]
    refine ⟨h, by simp, fun a ha b hb z => e ?_⟩
    have hb : b = k := by simpa using hb
    obtain ⟨p, hp, hpa⟩ := List.mem_map.mp ha
    rw [List.any_eq_true]
    exact ⟨p, hp, decide_eq_true (hpa.trans (z.trans hb))⟩
theorem ok_takeIn {f C : Addr} {fd : FuncData} (F : Fun K "take_in" "Span.take_in" (spM 3) f fd) (T : SpT K C) (mLi : mg "list" = none) (CV : Cal P w K mg base CX0 1 "divisor" ["vector"] (spDivisor K)) (CD : Cal P w K mg base CX0 1 "divided" ["vector", "by"] (spDivided K))
    (CC : Cal P w K mg base CX0 2 "combined" ["vector", "times", "other", "other_times"] (spCombined K)) : FnOk P w K mg base CX0 3 f fd ["self", "lead", "line"] (spTakeIn K C) := by
  refine F.ok scTakeIn (fun vs H Q E h => ?_) (fun cdv A outer s H vs Q E hr h => ?_)
  · obtain ⟨a, d, ln, lead, S, S', line, rfl, _⟩ := h
    rfl
  · obtain ⟨a, d, ln, lead, S, S', line, rfl, hs, hln, hm, q⟩ := h
    have nd := scTakeIn.nd
    have hr1 : Room 1 _ := hr.mono (by decide)
    refine ⟨_, pss_cons (ps_set (i := 3) nd rfl (Or.inl rfl) (pe_cal CD hr1 pass0 (pa_cons (pv 2) (pa_cons (pe_cal CV hr1 pass0 (pa_cons (pv 2) pa_nil)) pa_nil))))
      (pss_cons (ps_for PassesOwn.never rfl (pi_list (pe_callTy (call_list_dK rfl) (by rfl) mLi (by decide +kernel) (pa_cons (pe_fld (pv 0) rfl) pa_nil))) (pg_name (i := 4) nd rfl (Or.inl rfl))
        (pss_cons (ps_set (i := 5) nd rfl (Or.inl rfl) (pe_dget (hu_of hr) (pe_fld (pv 0) rfl) (pv 4) (fun _ _ => rfl)))
        (pss_one (ps_if (pt_cmp (pc_din (hu_of hr) (pv 1) (pv 5))) (pss_one (ps_dput (hu_of hr) (pe_fld (pv 0) rfl) (pv 4) (pe_cal CC hr pass0 (pa_cons (pv 5) (pa_cons (pe_dget (hu_of hr) (pv 3) (pv 1) (fun _ _ => rfl)) (pa_cons (pv 3) (pa_cons (pe_un un_neg (pe_dget (hu_of hr) (pv 5) (pv 1) (fun _ _ => rfl))) pa_nil))))) rfl)) pss_nil))))
      (pss_one (ps_dput (hu_of hr) (pe_fld (pv 0) rfl) (pv 1) (pv 3) rfl))), ?_⟩
    unfold takeIn at hm
    obtain ⟨_, hg1, hm⟩ := bnd_some.mp hm
    obtain ⟨c, hc, hm⟩ := bnd_some.mp hm
    obtain ⟨_, hg2, hm⟩ := bnd_some.mp hm
    obtain ⟨R, hR, hm⟩ := bnd_some.mp hm
    have hm' : spnPut R lead (vdivided line (vdivisor line)) = S' := Option.some.inj hm
    have hg1' := grd_some.mp hg1
    have hg2' := grd_some.mp hg2
    rw [Bool.and_eq_true, Bool.and_eq_true, decide_eq_true_eq, decide_eq_true_eq] at hg1'
    rw [Bool.and_eq_true, decide_eq_true_eq] at hg2'
    obtain ⟨g1, g2, g3⟩ := hg1'
    obtain ⟨g4, g5⟩ := hg2'
    obtain ⟨hRl, hRg⟩ := mapM_get hR
    refine ⟨_, rfl, _, rfl, ln, line, rfl, hln, fun H1 s1 => ⟨ln, line, _, rfl, hln.same s1, by omega, g1, Nat.lt_trans (sm_lt g2) (Nat.pow_lt_pow_right (by decide) (by decide)), fun nw H2 hnw s2 vnw => ?_⟩⟩
    have hs2 := (hs.same s1).same s2
    have s12 := Same.trans s1 s2
    clear hm hg1 hg2
    generalize hnew : vdivided line (vdivisor line) = new at hc hR g4 hm' vnw hRg
    obtain ⟨⟨dx, hi⟩, ⟨L, hL, hLS, hLv⟩, hnd⟩ := hs2
    have had : a ≠ d := ne_of hi hL (by intro z; cases z)
    refine ⟨_, rfl, a, C, dx, _, _, rfl, hi, T.cl, T.nl, rfl, d, _, rfl, hL, fun l hl => ?_⟩
    have hxk : (L.map lkv).map (fun kv => kV kv.1) = L.map fun x => V.int x.1 := by
      rw [List.map_map]
      rfl
    have hRk : R.map (·.1) = S.map (·.1) := by
      refine List.ext_getElem? fun i => ?_
      rw [List.getElem?_map, List.getElem?_map]
      cases e : S[i]? with
      | none =>
        have : R[i]? = none := by
          rw [List.getElem?_eq_none_iff] at e ⊢
          omega
        rw [this]
      | some x =>
        obtain ⟨y, h1, h2⟩ := hRg i x e
        rw [h2]
        unfold tkF at h1
        cases e2 : vget x.2 lead with
        | none =>
          rw [e2] at h1
          rw [← Option.some.inj h1]
        | some z =>
          rw [e2] at h1
          obtain ⟨_, _, h1⟩ := bnd_some.mp h1
          rw [← Option.some.inj h1]
          rfl
    have hkeys : ∀ i, (R.take i ++ S.drop i).map (·.1) = S.map (·.1) := fun i => by
      rw [List.map_append, List.map_take, List.map_drop, hRk, List.take_append_drop]
    have hld : l ≠ d := fun z => by rw [z, hL] at hl; cases hl
    have hll : L.length = S.length := by rw [← hLS, List.length_map]
    generalize hG : upd H2 l (.lst ((L.map lkv).map fun kv => kV kv.1)) = G
    have eG : G l = some (.lst ((L.map lkv).map fun kv => kV kv.1)) := by rw [← hG]; exact upd_same
    have sG : Same H2 G := by rw [← hG]; exact same_upd (Same.refl H2) hl
    refine ⟨l, rfl, ⟨_, SqL.of eG⟩, for_list (K := K) (a := l) (xs := (L.map lkv).map fun kv => kV kv.1) (fun i σ H' => ∃ (v4 v5 : Option V) (Li : Lns), σ = [some (.ref a), some (.int lead), some (.ref ln), some (.ref nw), v4, v5] ∧ OffD d G H' ∧ H' d = some (.dK (Li.map lkv)) ∧ Li.map lsv = R.take i ++ S.drop i ∧ ∀ x ∈ Li, VecF H' x.2.2 x.2.1)
      ⟨none, none, L, rfl, fun b o _ h => h, sG _ _ hL, by rw [hLS]; rfl, fun x hx => (hLv x hx).same sG⟩ (fun i σ H' _ ⟨_, _, _, _, o, _⟩ => SqL.of (o l _ hld eG)) ?_ ?_⟩
    · rintro i v σ H' hv ⟨v4, v5, Li, rfl, hO, hd', hLi, hVi⟩
      rw [hxk, List.getElem?_map] at hv
      obtain ⟨x0, hx0, rfl⟩ := Option.map_eq_some_iff.mp hv
      have hS : S[i]? = some (lsv x0) := by rw [← hLS, List.getElem?_map, hx0]; rfl
      have hiS := get_lt hS
      have hdr : S.drop i = lsv x0 :: S.drop (i + 1) := by
        rw [List.drop_eq_getElem_cons hiS]
        congr 1
        exact Option.some.inj ((List.getElem?_eq_getElem hiS).symm.trans hS)
      have hlt : (R.take i).length = i := by rw [List.length_take]; omega
      obtain ⟨x, hx, hxe⟩ : ∃ x, Li[i]? = some x ∧ lsv x = lsv x0 := by
        have h1 : (Li.map lsv)[i]? = some (lsv x0) := by
          rw [hLi, List.getElem?_append_right (by omega), hlt, Nat.sub_self, hdr]
          rfl
        rw [List.getElem?_map] at h1
        exact Option.map_eq_some_iff.mp h1
      have hx1 : x.1 = x0.1 := congrArg (fun p : Int × Vec => p.1) hxe
      have hx2 : x.2.1 = x0.2.1 := congrArg (fun p : Int × Vec => p.2) hxe
      have hval : valV (Li.map lkv) (.inl x0.1) = some (.ref x.2.2) := by
        rw [valV_lkv, ← hx1, find_of (by rw [hLi, hkeys]; exact hnd) hx]
        rfl
      have hone := hVi x (List.mem_of_getElem? hx)
      rw [hx2] at hone
      have hia : H' a = some (.ins C dx [("lines", .ref d)]) := hO a _ had (sG _ _ hi)
      have vnw' : VecF H' nw new := vnw.same sG |>.off hO (sG _ _ hL) (fun _ _ e => nomatch e)
      refine ⟨_, rfl, a, C, dx, _, _, rfl, hia, T.cl, T.nl, rfl, _, rfl, d, _, rfl, (by rw [← hval]; exact DGet.k (k := .inl x0.1) hd'), ?_⟩
      refine ⟨_, rfl, _, rfl, x.2.2, _, rfl, hone.vec.dget lead, _, rfl, ?_⟩
      obtain ⟨y, hy1, hy2⟩ := hRg i _ hS
      have htk : R.take (i + 1) = R.take i ++ [y] := take_succ_get hy2
      unfold tkF at hy1
      have hll2 : (Li.map lkv).length ≤ 4000 := by
        have := congrArg List.length hLi
        rw [List.length_map, List.length_append, List.length_drop, hlt] at this
        rw [List.length_map]
        omega
      cases e2 : vget x0.2.1 lead with
      | none =>
        rw [show vget (lsv x0).2 lead = none from e2] at hy1
        obtain rfl : lsv x0 = y := Option.some.inj hy1
        refine iteF ⟨_, _, Li, rfl, hO, hd', ?_, hVi⟩
        rw [hLi, htk, hdr, List.append_assoc]
        rfl
      | some z =>
        rw [show vget (lsv x0).2 lead = some z from e2] at hy1
        obtain ⟨_, hgg, hy1⟩ := bnd_some.mp hy1
        have hgg := grd_some.mp hgg
        obtain rfl : (x0.1, vcombined x0.2.1 c new (-z)) = y := Option.some.inj hy1
        refine iteT ?_
        have dn : DGet H' nw (.int lead) (some (.int c)) := by
          have := vnw'.vec.dget lead
          rw [hc] at this
          exact this
        have dz : DGet H' x.2.2 (.int lead) (some (.int z)) := by
          have := hone.vec.dget lead
          rw [e2] at this
          exact this
        have bn : Bd 2000 new := bd_of g4
        have bv : Bd 2000 x0.2.1 := bd_of hgg
        have ln1 := vsm_len g4
        have ln2 : x0.2.1.length ≤ 2000 := vsm_len hgg
        refine ⟨_, rfl, _, rfl, _, rfl, nw, _, rfl, dn, _, rfl, _, rfl, _, rfl, x.2.2, _, rfl, dz, z, rfl, ?_⟩
        refine ⟨x.2.2, nw, x0.2.1, new, c, -z, rfl, hone.vec, vnw'.vec, by omega, bv, bn, bn.get hc, by rw [Int.natAbs_neg]; exact bv.get e2, fun t H3 ht s3 vt => ?_⟩
        have hia3 := s3 _ _ hia
        have hd3 := s3 _ _ hd'
        refine ⟨_, rfl, a, C, dx, _, _, rfl, hia3, T.cl, T.nl, rfl, _, rfl, d, _, rfl, DPut.k (k := .inl x0.1) hd3 (by rw [sizeLine_eq]; omega), ?_⟩
        have nof : ∀ (b : Addr) (v : Vec), VecF H3 b v → VecF (upd H3 d (.dK (putK (Li.map lkv) (.inl x0.1) (.ref t)))) b v := fun b v hb => hb.off (OffD.upd (fun _ _ _ h => h)) hd3 (fun _ _ e => nomatch e)
        refine ⟨_, _, lput Li x0.1 (vcombined x0.2.1 c new (-z)) t, rfl, (hO.trans (.same s3)).upd, ?_, ?_, fun y hy => ?_⟩
        · rw [upd_same, putK_lkv Li x0.1 (vcombined x0.2.1 c new (-z)) t]
        · have hk0 := hkeys i
          rw [lput_lsv, hLi, htk, hdr, List.append_assoc]
          rw [hdr, List.map_append, List.map_cons] at hk0
          rw [← hk0, List.nodup_append, List.nodup_cons] at hnd
          refine spnPut_mid (fun z => hnd.2.2 _ z _ List.mem_cons_self rfl) hnd.2.1.1
        · rcases lput_mem hy with h | ⟨h1, h2⟩
          · exact nof _ _ ((hVi y h).same s3)
          · rw [h1, h2]
            exact nof _ _ vt
    · rintro σ H' ⟨v4, v5, Li, rfl, hO, hd', hLi, hVi⟩
      rw [hxk, List.length_map, hll, List.drop_length, List.append_nil, ← hRl, List.take_length] at hLi
      have hia : H' a = some (.ins C dx [("lines", .ref d)]) := hO a _ had (sG _ _ hi)
      have vnw' : VecF H' nw new := vnw.same sG |>.off hO (sG _ _ hL) (fun _ _ e => nomatch e)
      have hll2 : (Li.map lkv).length ≤ 4000 := by
        have := congrArg List.length hLi
        rw [List.length_map] at this ⊢
        omega
      refine ⟨_, rfl, _, rfl, a, C, dx, _, _, rfl, hia, T.cl, T.nl, rfl, _, rfl, d, _, rfl, DPut.k (k := .inl lead) hd' (by rw [sizeLine_eq]; omega), ?_⟩
      refine q _ ((OffD.trans (.same (Same.trans s12 sG)) hO).upd) ⟨⟨dx, (upd_ne had).trans hia⟩, ⟨lput Li lead new nw, ?_, ?_, ?_⟩, ?_⟩
      · rw [upd_same, putK_lkv Li lead new nw]
      · rw [lput_lsv, hLi, hm']
      · intro x hx
        have nof : ∀ (b : Addr) (v : Vec), VecF H' b v → VecF (upd H' d (.dK (putK (Li.map lkv) (.inl lead) (.ref nw)))) b v := fun b v hb => hb.off (OffD.upd (fun _ _ _ h => h)) hd' (fun _ _ e => nomatch e)
        rcases lput_mem hx with h | ⟨h1, h2⟩
        · exact nof _ _ (hVi x h)
        · rw [h1, h2]
          exact nof _ _ vnw'
      · rw [← hm']
        exact spnPut_nd (by rw [hRk]; exact hnd)
end
end FC
set_option Elab.async false
set_option linter.all false
set_option maxRecDepth 100000
set_option maxHeartbeats 4000000
/-! cleared. -/
namespace FC
open PySem PySem.Spec PyProof.Rows L2
theorem SpanAt.get {H : Hp} {C a d : Addr} {S : Spn} (h : SpanAt H C a d S) {k : Int} {v : Vec} (e : spnGet S k = some v) : ∃ b, DGet H d (.int k) (some (.ref b)) ∧ VecF H b v := by
  obtain ⟨_, ⟨L, h2, h3, h4⟩, _⟩ := h
  rw [← h3, spnGet_lsv] at e
  obtain ⟨x, hx, rfl⟩ := Option.map_eq_some_iff.mp e
  refine ⟨x.2.2, ?_, h4 x (List.mem_of_find?_eq_some hx)⟩
  have := DGet.k (k := .inl k) h2
  rw [valV_lkv, hx] at this
  exact this
theorem SpanAt.has {H : Hp} {C a d : Addr} {S : Spn} (h : SpanAt H C a d S) (k : Int) : ∃ o, DGet H d (.int k) o ∧ o.isSome = S.any fun p => decide (p.1 = k) := by
  obtain ⟨_, ⟨L, h2, h3, h4⟩, _⟩ := h
  refine ⟨_, DGet.k (k := .inl k) h2, ?_⟩
  rw [← valV_any, any_lkv, ← h3, any_lsv]
theorem SpanAt.offd {H H' : Hp} {C a d t : Addr} {S : Spn} {l : List (Key × V)} (h : SpanAt H C a d S) (s : OffD t H H') (ht : H t = some (.dK l)) (htd : t ≠ d) : SpanAt H' C a d S := by
  obtain ⟨⟨dx, h1⟩, ⟨L, h2, h3, h4⟩, h5⟩ := h
  exact ⟨⟨dx, s _ _ (ne_of h1 ht (fun z => nomatch z)) h1⟩, ⟨L, s _ _ htd.symm h2, h3, fun x hx => (h4 x hx).off s ht (fun _ _ e => nomatch e)⟩, h5⟩
def spCleared (K : PySem.W.Frag) (C : Addr) : Sp := fun vs H Q _ => ∃ (a d ln : Addr) (S : Spn) (line r : Vec), vs = [.ref a, .ref ln] ∧ SpanAt H C a d S ∧ H ln = some (.dK (kvs line)) ∧ Dst line ∧ ln ≠ d ∧ line.length ≤ 4000 ∧ cleared S line = some r ∧
  ∀ (t : Addr) H', H t = none → Same H H' → H' t = some (.dK (kvs r)) → Dst r → Q (.ref t) H'
theorem leads_snoc (S : Spn) (v : Vec) (p : Int × Int) : leadsOf S (v ++ [p]) = leadsOf S v ++ (if (S.any fun q => decide (q.1 = p.1)) = true then [p.1] else []) := by
  unfold leadsOf vkeys
  rw [List.map_append, List.filter_append]
  congr 1
  rw [List.map_cons, List.map_nil, List.filter_cons]
  split <;> simp_all
section
variable {P : Program} {w : World} {K : PySem.W.Frag} {mg : Str → Option Value} {base : Heap}
abbrev NCl : List Str := ["self", "line", "leads", "key", "times", "lead", "total", "number", "one"]
theorem scCleared : FnScope NCl ["self", "line"] (defScope (spM 2)) := ⟨rfl, rfl, rfl, by decide +kernel, rfl, by decide +kernel, by decide +kernel⟩
theorem ok_cleared {f C : Addr} {fd : FuncData} (F : Fun K "cleared" "Span.cleared" (spM 2) f fd) (T : SpT K C) (mL : mg "lcm" = some (.builtin "math.lcm")) (CA : Cal P w K mg base CX0 1 "add_to" ["total", "vector", "times"] (spAddTo K)) (CZ : Cal P w K mg base CX0 1 "without_zeros" ["vector"] (spNz K)) :
    FnOk P w K mg base CX0 2 f fd ["self", "line"] (spCleared K C) := by
  refine F.ok scCleared (fun vs H Q E h => ?_) (fun cdv A outer s H vs Q E hr h => ?_)
  · obtain ⟨a, d, ln, S, line, r, rfl, _⟩ := h
    rfl
  · obtain ⟨a, d, ln, S, line, r, rfl, hs, hlp, hld, hne, hll, hm, q⟩ := h
    have hln : VecAt H ln line := .of hlp hld
    have nd := scCleared.nd
    refine ⟨_, pss_cons (ps_lk (ps_setLc (i := 2) (own := [("key", 3)]) (g := gName 3) (tt := tB (tDIn (tVar 3) (tFld K (tVar 0) "lines"))) rfl nd rfl rfl (sw_true rfl rfl rfl (by decide +kernel)) (pi_keys (pv 1)) (blkOk_by (own := [("key", 3)]) (N := NCl) (sc := defScope (spM 2)) (by decide +kernel)) (fun _ _ _ _ _ => pg_name (i := 3) nd rfl (Or.inl rfl))
        (fun _ _ _ _ _ => pts_one (pt_cmp (pc_din (hu_of hr) (pv 3) (pe_fld (pv 0) rfl)))) (fun _ _ _ _ _ => pv 3)))
      (pss_cons (ps_set (i := 4) nd rfl (Or.inr rfl) pe_int)
      (pss_cons (ps_for PassesOwn.never rfl (pi_list (pv 2)) (pg_name (i := 5) nd rfl (Or.inl rfl)) (pss_one (ps_set (i := 4) nd rfl (Or.inr rfl) (pe_callBfun cr_lcm (by rfl) mL (pa_cons (pv 4) (pa_cons (pe_dget (hu_of hr) (pe_dget (hu_of hr) (pe_fld (pv 0) rfl) (pv 5) (fun _ _ => rfl)) (pv 5) (fun _ _ => rfl)) pa_nil))))))
      (pss_cons (ps_lk (ps_setDc (i := 6) (own := [("key", 3), ("number", 7)]) (g := gTup K 2 (gCons (gName 3) (gCons (gName 7) gNil))) rfl nd rfl rfl (sw_dict rfl rfl rfl (by decide +kernel)) (pi_items (pv 1)) (blkOk_by (own := [("key", 3), ("number", 7)]) (N := NCl) (sc := defScope (spM 2)) (by decide +kernel))
        (fun _ _ _ _ _ => pg_tup rfl (pgs_cons (pg_name (i := 3) nd rfl (Or.inl rfl)) (pgs_cons (pg_name (i := 7) nd rfl (Or.inl rfl)) pgs_nil)))
        (fun _ _ _ _ _ => pts_nil) (fun _ _ _ _ _ => pv 3) (fun _ _ _ _ _ => pe_op op_mulW (pv 7) (pv 4))))
      (pss_cons (ps_for PassesOwn.never rfl (pi_list (pv 2)) (pg_name (i := 5) nd rfl (Or.inl rfl))
        (pss_cons (ps_set (i := 8) nd rfl (Or.inl rfl) (pe_dget (hu_of hr) (pe_fld (pv 0) rfl) (pv 5) (fun _ _ => rfl)))
        (pss_one (ps_expr (pe_cal CA hr pass0 (pa_cons (pv 6) (pa_cons (pv 8) (pa_cons (pe_un un_neg (pe_op op_fdivA (pe_dget (hu_of hr) (pv 6) (pv 5) (fun _ _ => rfl)) (pe_dget (hu_of hr) (pv 8) (pv 5) (fun _ _ => rfl)))) pa_nil))))))))
      (pss_one (ps_ret (pe_cal CZ hr pass0 (pa_cons (pv 6) pa_nil)))))))), ?_⟩
    unfold cleared at hm
    obtain ⟨times, hc1, hm⟩ := bnd_some.mp hm
    obtain ⟨_, hg1, hm⟩ := bnd_some.mp hm
    obtain ⟨total, hc2, hm⟩ := bnd_some.mp hm
    obtain ⟨_, hg2, hm⟩ := bnd_some.mp hm
    have hm' : nz total = r := Option.some.inj hm
    have hg1' := grd_some.mp hg1
    have hg2' := grd_some.mp hg2
    rw [Bool.and_eq_true] at hg1'
    obtain ⟨g1, g2⟩ := hg1'
    clear hm hg1 hg2
    refine lk_open hln.1 fun Hl U o E1 l hl hE => ?_
    have hlv : VecAt Hl ln line := ⟨.inr ⟨o, hl⟩, hln.2⟩
    have hsl : SpanAt Hl C a d S := by
      obtain ⟨⟨dx, h1⟩, ⟨L, h2, h3, h4⟩, h5⟩ := hs
      refine ⟨⟨dx, ?_⟩, ⟨L, ?_, h3, fun x hx => ?_⟩, h5⟩
      · rw [l.off a (fun z => hln.ne h1 (fun _ e => nomatch e) (fun _ _ e => nomatch e) z.symm)]
        exact h1
      · rw [l.off d hne.symm]
        exact h2
      · obtain ⟨⟨ob, e⟩, dd⟩ := h4 x hx
        by_cases z : x.2.2 = ln
        · rw [z, hlp] at e; cases e
        · exact ⟨⟨ob, by rw [l.off _ z]; exact e⟩, dd⟩
    refine ⟨_, rfl, ln, o, rfl, .inl ⟨kvs line, hl, fun D hD => ?_⟩⟩
    refine lc_it (walk_keys (d := ln) (o := o) (kvs := kvs line)) (fun i H' => H' D = some (.lst ((leadsOf S (line.take i)).map V.int)) ∧ Same Hl H') ⟨upd_same, same_upd (Same.refl Hl) hD⟩ (fun i H' _ p => p.2 _ _ hl) ?_ ?_
    · rintro i x H1 H2 hi ⟨p1, p2⟩ ⟨rfl, k, v, hk, rfl⟩
      obtain ⟨n, z, hn, rfl⟩ : ∃ n z, line[i]? = some (n, z) ∧ k = .inl n := by
        rw [List.getElem?_map] at hk
        cases e : line[i]? with
        | none => rw [e] at hk; cases hk
        | some p =>
          rw [e] at hk
          have hk := Option.some.inj hk
          exact ⟨p.1, p.2, rfl, (congrArg Prod.fst hk).symm⟩
      have hs1 := hsl.same p2
      obtain ⟨dx, hi1⟩ := hs1.ins
      obtain ⟨oo, hg, hsome⟩ := hs1.has n
      have etk : leadsOf S (line.take (i + 1)) = leadsOf S (line.take i) ++ (if (S.any fun q => decide (q.1 = n)) = true then [n] else []) := by
        rw [take_succ_get hn, leads_snoc]
      refine ⟨rfl, _, rfl, _, rfl, a, C, dx, _, _, rfl, hi1, T.cl, T.nl, rfl, d, oo, rfl, hg, _, rfl, ?_⟩
      rw [hsome]
      cases hb : S.any fun q => decide (q.1 = n) with
      | false =>
        refine iteF ⟨?_, p2⟩
        rw [etk, hb, if_neg Bool.false_ne_true, List.append_nil]
        exact p1
      | true =>
        refine iteT ⟨_, rfl, _, p1, ?_, ?_, fun b ob h => ?_⟩
        · have h1 : (leadsOf S (line.take i)).length ≤ (vkeys (line.take i)).length := List.length_filter_le _ _
          have h2 : (vkeys (line.take i)).length ≤ line.length := by
            unfold vkeys
            rw [List.length_map, List.length_take]
            omega
          rw [List.length_map, sizeLine_eq]
          omega
        · rw [upd_same, etk, hb, if_pos rfl, List.map_append]
          rfl
        · rw [upd_ne (ne_of_none h hD)]
          exact p2 _ _ h
    · rintro H' ⟨p1, p2⟩
      rw [List.length_map, List.take_length] at p1
      refine hE.nx _ _ (by rw [p2 _ _ hl, hl]) ?_
      have hDn : D ≠ ln := fun z => by rw [z, hl] at hD; cases hD
      have s0 : Same H (U H') := l.same p2 (by rw [p2 _ _ hl, hl])
      have eD : U H' D = some (.lst ((leadsOf S line).map V.int)) := (l.back H' D hDn).trans p1
      have hDH : H D = none := by rw [← l.off D hDn]; exact hD
      generalize U H' = H2 at s0 eD ⊢
      have hs2 := hs.same s0
      obtain ⟨dx, hi2⟩ := hs2.ins
      refine ⟨_, rfl, D, rfl, ⟨_, SqL.of eD⟩, for_list (K := K) (a := D) (xs := (leadsOf S line).map V.int) (fun i σ G => G = H2 ∧ ∃ cm y, ((leadsOf S line).take i).foldlM (clrC S) 1 = some cm ∧ σ = [some (.ref a), some (.ref ln), some (.ref D), none, some (.int cm), y, none, none, none])
        ⟨rfl, 1, none, rfl, rfl⟩ (fun i σ G _ p => by rw [p.1]; exact SqL.of eD) ?_ ?_⟩
      · rintro i v σ G hv ⟨rfl, cm, y, hcm, rfl⟩
        rw [List.getElem?_map] at hv
        obtain ⟨k, hk, rfl⟩ := Option.map_eq_some_iff.mp hv
        obtain ⟨cm', h1, h2⟩ := foldM_step hc1 hk hcm
        unfold clrC at h1
        obtain ⟨one, h3, h1⟩ := bnd_some.mp h1
        obtain ⟨c, h4, h1⟩ := bnd_some.mp h1
        obtain ⟨_, h5, h1⟩ := bnd_some.mp h1
        have h1' : ilcm cm c = cm' := Option.some.inj h1
        have h5' := grd_some.mp h5
        rw [Bool.and_eq_true, Bool.and_eq_true] at h5'
        obtain ⟨e1, e2, e3⟩ := h5'
        obtain ⟨b, hb1, hb2⟩ := hs2.get h3
        have hb3 := hb2.vec.dget k
        rw [h4] at hb3
        have up : 2 ^ 2000 < 2 ^ 6000 := Nat.pow_lt_pow_right (by decide) (by decide)
        refine ⟨_, rfl, _, rfl, a, C, dx, _, _, rfl, hi2, T.cl, T.nl, rfl, _, rfl, d, _, rfl, hb1, _, rfl, b, _, rfl, hb3, cm, c, rfl, ⟨Nat.lt_trans (sm_lt e1) up, Nat.lt_trans (sm_lt e2) up⟩, ?_⟩
        exact ⟨rfl, cm', _, h2, by rw [← h1']; rfl⟩
      · rintro σ G ⟨rfl, cm, y, hcm, rfl⟩
        rw [List.length_map, List.take_length, hc1] at hcm
        obtain rfl : times = cm := Option.some.inj hcm
        have bl : Bd 2000 line := bd_of g2
        refine items_set (fun p => true) (fun p => (p.1, p.2 * times)) rfl (hln.same s0) (by rw [sizeLine_eq]; omega) ?_ ?_ ?_
        · exact (hln.2.filter _).mapv _
        · intro k z H3 T2 Nx D2 hm2 hT2 hs3 hD2 h0 h1
          obtain ⟨us, hus, hlu⟩ := hD2
          refine ⟨T2, [.int k, .int z], rfl, SqT.of hT2, rfl, _, _, rfl, _, _, rfl, rfl, rfl, ?_⟩
          exact ⟨_, rfl, _, rfl, _, rfl, z, times, rfl, rfl, wide_mul (bl _ hm2) (sm_lt g1) (by decide) (by decide) (by decide), us, .inl k, rfl, hus, hlu, h1 rfl us hus⟩
        · intro D3 H3 hD3 s3 hv3 e3
          have ee : (line.filter fun _ => true).map (fun p => (p.1, p.2 * times)) = vtimes line times := by rw [List.filter_eq_self.mpr (fun _ _ => rfl)]; rfl
          rw [ee] at hv3 e3
          have eD3 := s3 _ _ eD
          have hs3 := hs2.same s3
          obtain ⟨L0, hL0⟩ : ∃ o, H3 d = some o := by
            obtain ⟨L, h, _⟩ := hs3.lns
            exact ⟨_, h⟩
          have hDD : D ≠ D3 := ne_of_none eD hD3
          refine ⟨_, rfl, D, rfl, ⟨_, SqL.of eD3⟩, for_list (K := K) (a := D) (xs := (leadsOf S line).map V.int) (fun i σ G2 => OffD D3 H3 G2 ∧ ∃ tot y z, ((leadsOf S line).take i).foldlM (clrT S) (vtimes line times) = some tot ∧ Dst tot ∧ G2 D3 = some (.dK (kvs tot)) ∧ σ = [some (.ref a), some (.ref ln), some (.ref D), none, some (.int times), y, some (.ref D3), none, z])
            ⟨fun b o _ h => h, _, y, none, rfl, hv3.2, e3, rfl⟩ (fun i σ G2 _ p => SqL.of (p.1 D _ hDD eD3)) ?_ ?_⟩
          · rintro i v σ G2 hv ⟨p1, tot, y1, z1, htot, dtot, p4, rfl⟩
            rw [List.getElem?_map] at hv
            obtain ⟨k, hk, rfl⟩ := Option.map_eq_some_iff.mp hv
            obtain ⟨tot', h1, h2⟩ := foldM_step hc2 hk htot
            unfold clrT at h1
            obtain ⟨one, h3, h1⟩ := bnd_some.mp h1
            obtain ⟨c, h4, h1⟩ := bnd_some.mp h1
            obtain ⟨x, h5, h1⟩ := bnd_some.mp h1
            obtain ⟨_, h6, h1⟩ := bnd_some.mp h1
            have h1' : vaddTo tot one (-(x.fdiv c)) = tot' := Option.some.inj h1
            have h6' := grd_some.mp h6
            rw [Bool.and_eq_true, Bool.and_eq_true, Bool.and_eq_true] at h6'
            obtain ⟨e1, e2, e5, e4⟩ := h6'
            have htd : D3 ≠ d := fun z => by
              obtain ⟨L, hL, _⟩ := hs2.lns
              rw [z, hL] at hD3
              cases hD3
            have hsG := hs3.offd p1 e3 htd
            obtain ⟨dx4, hi4⟩ := hsG.ins
            obtain ⟨b, hb1, hb2⟩ := hsG.get h3
            have hb3 := hb2.vec.dget k
            rw [h4] at hb3
            have ht3 := (VecAt.of p4 dtot).dget k
            rw [h5] at ht3
            have hDb : D3 ≠ b := fun z => by
              obtain ⟨⟨q1, e⟩, _⟩ := hb2
              rw [← z, p4] at e
              cases e
            have cn0 : c ≠ 0 := by simpa using e4
            have up9 : 2 ^ 2000 < 2 ^ 9000 := Nat.pow_lt_pow_right (by decide) (by decide)
            have up20 : 2 ^ 2000 < 2 ^ 20000 := Nat.pow_lt_pow_right (by decide) (by decide)
            have bt : Bd 2000 tot := bd_of e1
            have bx := bt.get h5
            have lt1 := vsm_len e1
            have lt2 := vsm_len e2
            refine ⟨_, rfl, a, C, dx4, _, _, rfl, hi4, T.cl, T.nl, rfl, _, rfl, d, _, rfl, hb1, ?_⟩
            refine ⟨_, rfl, _, rfl, _, rfl, _, rfl, D3, _, rfl, ht3, _, rfl, _, rfl, b, _, rfl, hb3, x, c, rfl, rfl, ⟨cn0, Nat.lt_trans (sm_lt e5) up9⟩, x.fdiv c, rfl, ?_⟩
            refine ⟨D3, b, tot, one, -(x.fdiv c), rfl, p4, hb2.vec, hDb, by omega, fun p hp => Nat.lt_trans (bd_of e2 p hp) up20, ?_, fun H5 s5 e6 => ?_⟩
            · rw [Int.natAbs_neg]
              exact Nat.lt_of_le_of_lt (fdiv_lt bx) up20
            · exact ⟨OffD.trans p1 s5, tot', _, _, h2, by rw [← h1']; exact vadd_dst _ _ _ dtot, by rw [← h1']; exact e6, rfl⟩
          · rintro σ G2 ⟨p1, tot, y1, z1, htot, dtot, p4, rfl⟩
            rw [List.length_map, List.take_length, hc2] at htot
            obtain rfl : total = tot := Option.some.inj htot
            have lt1 := vsm_len hg2'
            refine ⟨_, rfl, D3, total, rfl, .of p4 dtot, by omega, fun t H5 ht s5 e5 d5 => ?_⟩
            have sF : Same H G2 := fun b ob h => p1 b ob (ne_of_none (s0 b ob h) hD3) (s3 _ _ (s0 b ob h))
            refine q t H5 ?_ (Same.trans sF s5) (by rw [← hm']; exact e5) (by rw [← hm']; exact d5)
            cases z : H t with
            | none => rfl
            | some oc => rw [sF _ _ z] at ht; cases ht
end
end FC
set_option Elab.async false
set_option linter.all false
set_option maxRecDepth 100000
set_option maxHeartbeats 4000000
/-! place. -/
namespace FC
open PySem PySem.Spec PyProof.Rows L2
theorem merge_go : ∀ (r acc : Vec), Dst (acc ++ r) → mergeK (kvs acc) (kvs r) = kvs (acc ++ r)
  | [], acc, _ => by rw [List.append_nil]; rfl
  | p :: r, acc, h => by
    have e : mergeK (kvs acc) (kvs (p :: r)) = mergeK (putK (kvs acc) (.inl p.1) (.int p.2)) (kvs r) := rfl
    have hn : p.1 ∉ acc.map (·.1) := fun z => by
      unfold Dst at h
      rw [List.map_append, List.nodup_append] at h
      exact h.2.2 _ z _ (by simp) rfl
    have e2 : vput acc p.1 p.2 = acc ++ [p] := by
      unfold vput
      rw [if_neg (fun z => hn (any_mem.mp z))]
    have h2 : Dst ((acc ++ [p]) ++ r) := by
      rw [List.append_assoc]
      exact h
    rw [e, putK_kvs, e2, merge_go r (acc ++ [p]) h2, List.append_assoc]
    rfl
theorem merge_kvs {v : Vec} (h : Dst v) : mergeK [] (kvs v) = kvs v := merge_go v [] h
theorem minL_mem : ∀ (r : List Int) (x : Int), (∃ y ∈ x :: r, y = minL (x :: r)) ∧ ∀ y ∈ x :: r, minL (x :: r) ≤ y
  | [], x => ⟨⟨x, by simp, rfl⟩, fun y hy => by rw [List.mem_singleton.mp hy]; exact Int.le_refl _⟩
  | z :: r, x => by
    have e : minL (x :: z :: r) = minL ((if z < x then z else x) :: r) := rfl
    obtain ⟨⟨y, h1, h2⟩, h3⟩ := minL_mem r (if z < x then z else x)
    rw [e]
    refine ⟨⟨y, ?_, h2⟩, fun w hw => ?_⟩
    · rcases List.mem_cons.mp h1 with q | q
      · rw [q]
        split <;> simp
      · simp [q]
    · have h4 := h3 _ List.mem_cons_self
      have h6 : (if z < x then z else x) ≤ x ∧ (if z < x then z else x) ≤ z := by split <;> omega
      rcases List.mem_cons.mp hw with q | q
      · rw [q]
        exact Int.le_trans h4 h6.1
      · rcases List.mem_cons.mp q with q | q
        · rw [q]
          exact Int.le_trans h4 h6.2
        · exact h3 w (List.mem_cons_of_mem _ q)
theorem minL_is {l : List Int} {M : Int} (h1 : M ∈ l) (h2 : ∀ a ∈ l, M ≤ a) : M = minL l := by
  cases l with
  | nil => cases h1
  | cons x r =>
    obtain ⟨⟨y, h3, h4⟩, h5⟩ := minL_mem r x
    have := h5 M h1
    have := h2 y h3
    omega
theorem cleared_sm {S : Spn} {v r : Vec} (h : cleared S v = some r) : vsm r = true ∧ ∀ p ∈ r, p.2 ≠ 0 := by
  unfold cleared at h
  obtain ⟨_, _, h⟩ := bnd_some.mp h
  obtain ⟨_, _, h⟩ := bnd_some.mp h
  obtain ⟨t, _, h⟩ := bnd_some.mp h
  obtain ⟨_, g, h⟩ := bnd_some.mp h
  have h' : nz t = r := Option.some.inj h
  have g' := grd_some.mp g
  rw [← h']
  refine ⟨?_, fun p hp => nz_mem hp⟩
  unfold vsm at g' ⊢
  rw [Bool.and_eq_true, decide_eq_true_eq, List.all_eq_true] at g' ⊢
  exact ⟨Nat.le_trans (List.length_filter_le _ _) g'.1, fun p hp => g'.2 p (List.mem_filter.mp hp).1⟩
def spPlace (K : PySem.W.Frag) (C : Addr) : Sp := fun vs H Q _ => ∃ (a d bl pa : Addr) (S S' : Spn) (parts : Vec) (scale name : Int) (r : Bld), vs = [.ref a, .ref bl, .int name] ∧ SpanAt H C a d S ∧ SqT K H bl [.ref pa, .int scale] ∧ VecAt H pa parts ∧ pa ≠ d ∧ parts.length ≤ 2000 ∧ place S (parts, scale) name = some (S', r) ∧
  ∀ (t : Addr) H', OffD d H H' → SpanAt H' C a d S' → BldAt K H' t r → Q (.ref t) H'
section
variable {P : Program} {w : World} {K : PySem.W.Frag} {mg : Str → Option Value} {base : Heap}
abbrev NPl : List Str := ["self", "blend", "name", "parts", "scale", "mark", "line", "leads", "key", "own", "number"]
theorem scPlace : FnScope NPl ["self", "blend", "name"] (defScope (spM 1)) := ⟨rfl, rfl, rfl, by decide +kernel, rfl, by decide +kernel, by decide +kernel⟩
theorem ok_place {f fC fT C : Addr} {fd fdC fdT : FuncData} (F : Fun K "place" "Span.place" (spM 1) f fd) (T : SpT K C) (B : Blt mg) (GC : FnOk P w K mg base CX0 2 fC fdC ["self", "line"] (spCleared K C)) (bC : Binds K fdC ["self", "line"] []) (mC : Meth K C "cleared" fC)
    (GT : FnOk P w K mg base CX0 3 fT fdT ["self", "lead", "line"] (spTakeIn K C)) (bT : Binds K fdT ["self", "lead", "line"] []) (mT : Meth K C "take_in" fT) (CO : Cal P w K mg base CX0 1 "only" ["key"] (spOnly K)) (CS : Cal P w K mg base CX0 2 "shortened" ["parts", "scale"] (spShortened K)) :
    FnOk P w K mg base CX0 4 f fd ["self", "blend", "name"] (spPlace K C) := by
  refine F.ok scPlace (fun vs H Q E h => ?_) (fun cdv A outer s H vs Q E hr h => ?_)
  · obtain ⟨a, d, bl, pa, S, S', parts, scale, name, r, rfl, _⟩ := h
    rfl
  · obtain ⟨a, d, bl, pa, S, S', parts, scale, name, r, rfl, hs, hbl, hpa, hne, hpl, hm, q⟩ := h
    have nd := scPlace.nd
    have hr1 : Room 1 _ := hr.mono (by decide)
    have hr2 : Room 2 _ := hr.mono (by decide)
    refine ⟨_, pss_cons (ps_asg (pv 1) (pg_tup rfl (pgs_cons (pg_name (i := 3) nd rfl (Or.inl rfl)) (pgs_cons (pg_name (i := 4) nd rfl (Or.inl rfl)) pgs_nil))))
      (pss_cons (ps_set (i := 5) nd rfl (Or.inl rfl) (pe_op op_sub (pe_un un_neg pe_int) (pv 2)))
      (pss_cons (ps_set (i := 6) nd rfl (Or.inl rfl) (pe_meth (pv 0) T.cl mC GC hr2 bC .nil pass0 (pa_cons (pe_dstar (pv 3) (pv 5) (pv 4)) pa_nil)))
      (pss_cons (ps_lk (ps_setLc (i := 7) (own := [("key", 8)]) (g := gName 8) rfl nd rfl rfl (sw_true rfl rfl rfl (by decide +kernel)) (pi_keys (pv 6)) (blkOk_by (own := [("key", 8)]) (N := NPl) (sc := defScope (spM 1)) (by decide +kernel)) (fun _ _ _ _ _ => pg_name (i := 8) nd rfl (Or.inl rfl))
        (fun _ _ _ _ _ => pts_one (pt_cmp (pc_ge (pv 8) pe_int))) (fun _ _ _ _ _ => pv 8)))
      (pss_cons (ps_if (pt_truth (pv 7) (fun _ => rfl)) (pss_cons (ps_expr (pe_meth (pv 0) T.cl mT GT hr bT .nil pass0 (pa_cons (pe_callB (cr_min rfl) (by rfl) B.min (by decide +kernel) (pa_cons (pv 7) pa_nil)) (pa_cons (pv 6) pa_nil)))) (pss_one (ps_ret (pe_cal CO hr1 pass0 (pa_cons (pv 2) pa_nil))))) pss_nil)
      (pss_cons (ps_set (i := 9) nd rfl (Or.inl rfl) (pe_dpop1 (pv 6) (pv 5) ⟨rfl, rfl, rfl, rfl⟩))
      (pss_one (ps_ret (pe_cal CS hr2 pass0 (pa_cons (pe_lk (pe_dc (own := [("key", 8), ("number", 10)]) (g := gTup K 2 (gCons (gName 8) (gCons (gName 10) gNil))) rfl nd (pi_items (pv 6)) (blkOk_by (own := [("key", 8), ("number", 10)]) (N := NPl) (sc := defScope (spM 1)) (by decide +kernel))
        (fun _ _ _ _ _ => pg_tup rfl (pgs_cons (pg_name (i := 8) nd rfl (Or.inl rfl)) (pgs_cons (pg_name (i := 10) nd rfl (Or.inl rfl)) pgs_nil)))
        (fun _ _ _ _ _ => pts_nil) (fun _ _ _ _ _ => pe_op op_sub (pe_un un_neg pe_int) (pv 8)) (fun _ _ _ _ _ => pe_un un_neg (pv 10)))) (pa_cons (pv 9) pa_nil)))))))))), ?_⟩
    unfold place at hm
    obtain ⟨line, hc, hm⟩ := bnd_some.mp hm
    obtain ⟨dx0, hi0⟩ := hs.ins
    refine ⟨_, rfl, bl, _, rfl, hbl, rfl, _, _, rfl, _, _, rfl, rfl, ?_⟩
    refine ⟨_, rfl, _, rfl, -1, name, rfl, rfl, ?_⟩
    have had : a ≠ d := by
      obtain ⟨L, hL, _⟩ := hs.lns
      exact ne_of hi0 hL (fun z => nomatch z)
    refine ⟨_, rfl, a, dx0, _, rfl, hi0, rfl, fun p hp => ⟨_, rfl, ?_⟩⟩
    have s1 := same_upd (o := .dK []) (Same.refl H) hp
    have e1 : upd H p (.dK []) p = some (.dK []) := upd_same
    have npa : pa ≠ p := fun z => hpa.some (by rw [z]; exact hp)
    generalize hH1 : upd H p (.dK []) = H1 at s1 e1
    refine ⟨pa, kvs parts, rfl, (hpa.same s1).1, npa, e1, by rw [List.length_map]; omega, fun q0 hq0 => ?_⟩
    rw [merge_kvs hpa.2]
    have npq : p ≠ q0 := fun z => by rw [← z, e1] at hq0; cases hq0
    have nq0 : ∀ b o, H b = some o → b ≠ q0 := fun b o h => ne_of_none (s1 b o h) hq0
    have np : ∀ b o, H b = some o → b ≠ p := fun b o h => ne_of_none h hp
    generalize hH2 : upd (upd H1 p (.dK (kvs parts))) q0 (.dK []) = H2
    have e2p : H2 p = some (.dK (kvs parts)) := by rw [← hH2, upd_ne npq, upd_same]
    have e2q : H2 q0 = some (.dK []) := by rw [← hH2, upd_same]
    have s2 : Same H H2 := fun b o h => by
      rw [← hH2, upd_ne (nq0 b o h), upd_ne (np b o h)]
      exact s1 b o h
    refine ⟨_, rfl, _, rfl, .inl (-1 - name), rfl, e2p, e2q, ?_⟩
    generalize hH3 : upd (upd H2 q0 (.dK [(Sum.inl (-1 - name), V.int scale)])) p (.dK (putK (kvs parts) (Sum.inl (-1 - name)) (V.int scale))) = H3
    have e3p : H3 p = some (.dK (kvs (vput parts (-1 - name) scale))) := by rw [← hH3, upd_same, putK_kvs]
    have s3 : Same H H3 := fun b o h => by
      rw [← hH3, upd_ne (np b o h), upd_ne (nq0 b o h)]
      exact s2 b o h
    have hpd : p ≠ d := fun z => by
      obtain ⟨L, hL, _⟩ := hs.lns
      rw [z, hL] at hp
      cases hp
    have lvp := vput_len parts (-1 - name) scale
    obtain ⟨sml, nzl⟩ := cleared_sm hc
    have lnl := vsm_len sml
    refine ⟨a, d, p, S, vput parts (-1 - name) scale, line, rfl, hs.same s3, e3p, hpa.2.put _ _, hpd, by omega, hc, fun ln H4 hln4 s4 e4 d4 => ?_⟩
    have s34 := Same.trans s3 s4
    have hlnH : H ln = none := by
      cases z : H ln with
      | none => rfl
      | some oc => rw [s3 _ _ z] at hln4; cases hln4
    have hlnd : ln ≠ d := fun z => by
      obtain ⟨L, hL, _⟩ := hs.lns
      rw [z, hL] at hlnH
      cases hlnH
    have hv4 : VecAt H4 ln line := .of e4 d4
    refine lk_open hv4.1 fun Hl U o E1 l hl hE => ?_
    refine ⟨_, rfl, ln, o, rfl, .inl ⟨kvs line, hl, fun D hD => ?_⟩⟩
    refine lc_it (walk_keys (d := ln) (o := o) (kvs := kvs line)) (fun i H' => H' D = some (.lst (((vkeys (line.take i)).filter fun k => decide (0 ≤ k)).map V.int)) ∧ Same Hl H') ⟨upd_same, same_upd (Same.refl Hl) hD⟩ (fun i H' _ p => p.2 _ _ hl) ?_ ?_
    · rintro i x H5 H6 hi ⟨p1, p2⟩ ⟨rfl, k, v, hk, rfl⟩
      obtain ⟨n, z, hn, rfl⟩ : ∃ n z, line[i]? = some (n, z) ∧ k = .inl n := by
        rw [List.getElem?_map] at hk
        cases e : line[i]? with
        | none => rw [e] at hk; cases hk
        | some p =>
          rw [e] at hk
          have hk := Option.some.inj hk
          exact ⟨p.1, p.2, rfl, (congrArg Prod.fst hk).symm⟩
      have etk : (vkeys (line.take (i + 1))).filter (fun k => decide (0 ≤ k)) = (vkeys (line.take i)).filter (fun k => decide (0 ≤ k)) ++ (if decide (0 ≤ n) = true then [n] else []) := by
        unfold vkeys
        rw [take_succ_get hn, List.map_append, List.filter_append, List.map_cons, List.map_nil, List.filter_cons, List.filter_nil]
      refine ⟨rfl, _, rfl, n, 0, rfl, rfl, _, rfl, ?_⟩
      show if decide (0 ≤ n) = true then _ else _
      by_cases hb : 0 ≤ n
      · have hb' : decide (0 ≤ n) = true := decide_eq_true hb
        rw [if_pos hb'] at etk ⊢
        refine ⟨_, rfl, _, p1, ?_, ?_, fun b ob h => ?_⟩
        · have h1 : ((vkeys (line.take i)).filter fun k => decide (0 ≤ k)).length ≤ (vkeys (line.take i)).length := List.length_filter_le _ _
          have h2 : (vkeys (line.take i)).length ≤ line.length := by
            unfold vkeys
            rw [List.length_map, List.length_take]
            omega
          rw [List.length_map, sizeLine_eq]
          omega
        · rw [upd_same, etk, List.map_append]
          rfl
        · rw [upd_ne (ne_of_none h hD)]
          exact p2 _ _ h
      · have hb' : ¬ decide (0 ≤ n) = true := fun z => hb (of_decide_eq_true z)
        rw [if_neg hb'] at etk ⊢
        rw [etk, List.append_nil]
        exact ⟨p1, p2⟩
    · rintro H' ⟨p1, p2⟩
      rw [List.length_map, List.take_length] at p1
      refine hE.nx _ _ (by rw [p2 _ _ hl, hl]) ?_
      have hDn : D ≠ ln := fun z => by rw [z, hl] at hD; cases hD
      have s5 : Same H4 (U H') := l.same p2 (by rw [p2 _ _ hl, hl])
      have eD : U H' D = some (.lst (((vkeys line).filter fun k => decide (0 ≤ k)).map V.int)) := (l.back H' D hDn).trans p1
      generalize U H' = H5 at s5 eD ⊢
      have s05 := Same.trans s34 s5
      have hs5 := hs.same s05
      obtain ⟨dx5, hi5⟩ := hs5.ins
      have e5 := s5 _ _ e4
      refine ⟨_, rfl, _, .inl ⟨_, SqL.of eD, rfl⟩, ?_⟩
      cases hz : (vkeys line).filter fun k => decide (0 ≤ k) with
      | nil =>
        simp only [hz, List.isEmpty_nil, if_true] at hm
        obtain ⟨own, hown, hm⟩ := bnd_some.mp hm
        obtain ⟨_, hg, hm⟩ := bnd_some.mp hm
        have hm' := Option.some.inj hm
        obtain rfl : S = S' := congrArg Prod.fst hm'
        have hg' : 0 < own := of_decide_eq_true (grd_some.mp hg)
        have hval : valV (kvs line) (.inl (-1 - name)) = some (.int own) := by rw [valV_kvs, hown]; rfl
        refine iteF ⟨_, rfl, ln, rfl, .inl ⟨_, .inl e5⟩, _, rfl, kvs line, .inl (-1 - name), .int own, e5, rfl, hval, ?_⟩
        rw [dropK_kvs]
        generalize hv6 : line.filter (fun p => !decide (p.1 = -1 - name)) = v6 at hm'
        have d6 : Dst v6 := by rw [← hv6]; exact d4.filter _
        have l6 : v6.length ≤ 2000 := by
          rw [← hv6]
          exact Nat.le_trans (List.length_filter_le _ _) lnl
        generalize hH6 : upd H5 ln (.dK (kvs v6)) = H6
        have e6 : H6 ln = some (.dK (kvs v6)) := by rw [← hH6, upd_same]
        have s06 : Same H H6 := fun b o h => by
          rw [← hH6, upd_ne (ne_of_none h hlnH)]
          exact s05 b o h
        have bown : own.natAbs < 2 ^ 9000 := Nat.lt_trans ((bd_of sml).get hown) (Nat.pow_lt_pow_right (by decide) (by decide))
        refine items_dc (v := v6) (fun _ => true) (fun p => (-1 - p.1, -p.2)) rfl (.of e6 d6) (by rw [sizeLine_eq]; omega) ?_ ?_ ?_
        · rw [List.filter_eq_self.mpr (fun _ _ => rfl)]
          exact d6.mapk (fun k => -1 - k) (fun x y h => by omega) _
        · intro k z H7 T2 Nx D2 hm2 hT2 hs3 hD2 h0 h1
          obtain ⟨us, hus, hlu⟩ := hD2
          refine ⟨T2, [.int k, .int z], rfl, SqT.of hT2, rfl, _, _, rfl, _, _, rfl, rfl, rfl, ?_⟩
          exact ⟨_, rfl, _, rfl, -1, k, rfl, rfl, _, rfl, z, rfl, us, .inl (-1 - k), rfl, hus, hlu, h1 rfl us hus⟩
        · intro D2 H7 hD2 s7 hv7 e7
          rw [List.filter_eq_self.mpr (fun _ _ => rfl)] at hv7
          refine ⟨_, rfl, D2, _, own, rfl, hv7, by rw [List.length_map]; omega, hg', bown, fun t H8 s8 b8 => ?_⟩
          have s08 := Same.trans (Same.trans s06 s7) s8
          have hr' : vshortened (v6.map fun p => (-1 - p.1, -p.2)) own = r := congrArg Prod.snd hm'
          rw [hr'] at b8
          exact q t H8 (.same s08) (hs.same s08) b8
      | cons y ys =>
        simp only [hz, List.isEmpty_cons, Bool.false_eq_true, if_false] at hm
        obtain ⟨S2, hti, hm⟩ := bnd_some.mp hm
        have hm' := Option.some.inj hm
        obtain rfl : S2 = S' := congrArg Prod.fst hm'
        have hr' : only name = r := congrArg Prod.snd hm'
        refine iteT ⟨_, rfl, a, dx5, _, rfl, hi5, rfl, _, rfl, D, _, rfl, SqL.of eD, by rw [hz]; simp, fun M hM hle => ⟨_, rfl, ?_⟩⟩
        have eM : M = minL (y :: ys) := by
          rw [hz] at hM hle
          exact minL_is hM hle
        refine ⟨a, d, ln, M, S, S2, line, rfl, hs5, .of e5 d4, by rw [eM]; exact hti, fun H6 f6 sp6 => ⟨_, rfl, name, rfl, fun t H7 s7 b7 => ?_⟩⟩
        rw [hr'] at b7
        exact q t H7 (OffD.trans (OffD.trans (.same s05) f6) (.same s7)) (sp6.same s7) b7
end
end FC
set_option Elab.async false
set_option linter.all false
set_option maxRecDepth 100000
set_option maxHeartbeats 4000000
/-! States by rows: what a chain's state is behind a row, and how it goes on. -/
namespace FC
open PySem L2
def stOf : List Stp → List Int → Sta
  | [], _ => []
  | p :: cs, row => p.held row :: stOf cs (p.outs [] row)
theorem give_ok {p : Stp} (hp : p.ok) (pre : List Int) (x : Int) : give p (p.held pre) x = (p.out pre x, p.held (pre ++ [x])) := by
  cases p with
  | line a b => rfl
  | turn m r a b =>
    obtain ⟨h1, h2, h3, _⟩ := hp
    have e := rem_iff (x := x) h1 h2 h3
    show (if x % m ≠ r then ([x], (0, 0)) else ([a * x + b], (0, 0))) = ([if (x - r) % m = 0 then a * x + b else x], (0, 0))
    by_cases z : x % m = r
    · rw [if_neg (by simpa using z), if_pos (e.mpr z)]
    · rw [if_pos z, if_neg (fun q => z (e.mp q))]
  | keep m r =>
    obtain ⟨h1, h2, h3⟩ := hp
    have e := rem_iff (x := x) h1 h2 h3
    show (if x % m ≠ r then ([], (0, 0)) else ([x], (0, 0))) = ((if (x - r) % m = 0 then [x] else []), (0, 0))
    by_cases z : x % m = r
    · rw [if_neg (by simpa using z), if_pos (e.mpr z)]
    · rw [if_pos z, if_neg (fun q => z (e.mp q))]
  | every k r =>
    obtain ⟨h1, h2, h3⟩ := hp
    show ((if (pre.length : Int) % k = r then [x] else []), (((pre.length : Int) % k + 1) % k, (0 : Int))) = ((if (pre.length : Int) % k = r then [x] else []), (((pre ++ [x]).length : Int) % k, 0))
    rw [every_next h1, List.length_append, List.length_singleton]
    rfl
  | twice => rfl
  | sums =>
    show ([pre.sum + x], ((0 : Int), pre.sum + x)) = ([(pre ++ [x]).sum], (0, (pre ++ [x]).sum))
    rw [sum_snoc]
  | anew m r =>
    obtain ⟨h1, h2, h3⟩ := hp
    have e := rem_iff (x := x) h1 h2 h3
    show (let t := if x % m = r then 0 else (pre.drop (lastHit m r pre)).sum; ([t + x], ((0 : Int), t + x))) = ([((pre ++ [x]).drop (lastHit m r (pre ++ [x]))).sum], (0, ((pre ++ [x]).drop (lastHit m r (pre ++ [x]))).sum))
    rw [anew_snoc]
    by_cases z : x % m = r
    · rw [if_pos (e.mpr z), if_pos z]
    · rw [if_neg (fun q => z (e.mp q)), if_neg z]
  | gaps =>
    show ([x - pre.getLastD 0], ((0 : Int), x)) = ([x - pre.getLastD 0], (0, (pre ++ [x]).getLastD 0))
    rw [gaps_snoc]
  | groups k =>
    have hk : two3 k := hp
    show (if (pre.length : Int) % k + 1 < k then ([], ((pre.length : Int) % k + 1, (pre.drop (pre.length - pre.length % k.toNat)).sum + x)) else ([(pre.drop (pre.length - pre.length % k.toNat)).sum + x], (0, 0))) =
      ((if ((pre.length : Int) + 1) % k = 0 then [((pre ++ [x]).drop (pre.length + 1 - k.toNat)).sum] else []), (((pre ++ [x]).length : Int) % k, ((pre ++ [x]).drop ((pre ++ [x]).length - (pre ++ [x]).length % k.toNat)).sum))
    by_cases z : (pre.length : Int) % k + 1 < k
    · obtain ⟨e1, e2, e3⟩ := groups_low hk (x := x) z
      rw [if_pos z, if_neg e1, e3]
      have : ((pre ++ [x]).length : Int) % k = (pre.length : Int) % k + 1 := by
        rw [List.length_append, List.length_singleton, ← e2]
        rfl
      rw [this]
    · obtain ⟨e1, e2, e3⟩ := groups_high hk (x := x) z
      rw [if_neg z, if_pos e1, e2, e3]
      have : ((pre ++ [x]).length : Int) % k = 0 := by
        rw [List.length_append, List.length_singleton, ← e1]
        rfl
      rw [this]
  | count =>
    show ([(pre.length : Int) + 1], ((0 : Int), (pre.length : Int) + 1)) = ([(pre.length : Int) + 1], (0, ((pre ++ [x]).length : Int)))
    rw [List.length_append, List.length_singleton]
    rfl
theorem pass_ok {p : Stp} (hp : p.ok) : ∀ (xs pre : List Int), passM p (p.held pre) xs = (p.outs pre xs, p.held (pre ++ xs))
  | [], pre => by
    rw [List.append_nil]
    rfl
  | x :: r, pre => by
    show (let g := give p (p.held pre) x; let q := passM p g.2 r; (g.1 ++ q.1, q.2)) = _
    rw [give_ok hp]
    show ((p.out pre x ++ (passM p (p.held (pre ++ [x])) r).1, (passM p (p.held (pre ++ [x])) r).2) : List Int × (Int × Int)) = _
    rw [pass_ok hp r (pre ++ [x]), outs_cons, List.append_assoc]
    rfl
theorem advM_ok : ∀ (ps : List Stp) (row xs : List Int), (∀ p ∈ ps, p.ok) → advM ps (stOf ps row) xs = (newM ps row xs, stOf ps (row ++ xs))
  | [], _, _, _ => rfl
  | p :: cs, row, xs, h => by
    show (let q := passM p (p.held row) xs; let r := advM cs (stOf cs (p.outs [] row)) q.1; (r.1, q.2 :: r.2)) = _
    rw [pass_ok (h p List.mem_cons_self)]
    show (((advM cs (stOf cs (p.outs [] row)) (p.outs row xs)).1, p.held (row ++ xs) :: (advM cs (stOf cs (p.outs [] row)) (p.outs row xs)).2) : List Int × Sta) = _
    rw [advM_ok cs _ _ fun q hq => h q (List.mem_cons_of_mem _ hq)]
    have e : p.outs [] (row ++ xs) = p.outs [] row ++ p.outs row xs := p.outs_append row [] xs
    show ((newM cs (p.outs [] row) (p.outs row xs), p.held (row ++ xs) :: stOf cs (p.outs [] row ++ p.outs row xs)) : List Int × Sta) = (newM cs (p.outs [] row) (p.outs row xs), p.held (row ++ xs) :: stOf cs (p.outs [] (row ++ xs)))
    rw [e]
theorem adv_ok {ps : List Stp} (h : ∀ p ∈ ps, p.ok) (row : List Int) (x : Int) : adv ps (stOf ps row) x = (newM ps row [x], stOf ps (row ++ [x])) := advM_ok ps row [x] h
theorem stOf_nil : ∀ ps : List Stp, stOf ps [] = startM ps
  | [] => rfl
  | p :: cs => by
    show p.held [] :: stOf cs [] = (0, 0) :: startM cs
    rw [held_nil, stOf_nil cs]
theorem stOf_len : ∀ (ps : List Stp) (row : List Int), (stOf ps row).length = ps.length
  | [], _ => rfl
  | p :: cs, row => by
    show (stOf cs _).length + 1 = cs.length + 1
    rw [stOf_len cs]
theorem stOf_get : ∀ (ps : List Stp) (row : List Int) (i : Nat) (p : Stp), ps[i]? = some p → (stOf ps row)[i]? = some (p.held (runM (ps.take i) row))
  | [], _, i, p, h => by simp at h
  | q :: cs, row, 0, p, h => by
    have h : q = p := by simpa using h
    subst h
    rw [List.take_zero, run_nil]
    rfl
  | q :: cs, row, i + 1, p, h => by
    have h : cs[i]? = some p := by simpa using h
    show (stOf cs (q.outs [] row))[i]? = _
    rw [stOf_get cs _ i p h, List.take_succ_cons, run_steps, run_steps]
    rfl
end FC
set_option Elab.async false
set_option linter.all false
set_option maxRecDepth 100000
set_option maxHeartbeats 4000000
/-! Moduli. -/
namespace FC
open PySem PySem.Spec PyProof.Rows L2
def spModAhead (K : PySem.W.Frag) : Sp := fun vs H Q _ => ∃ (b : Addr) (p : Stp) (m : Int), vs = [.ref b, .int m] ∧ SqT K H b p.v ∧ p.ok ∧ 0 < m ∧ m.natAbs < 2 ^ 2000 ∧ ∀ H', Same H H' → Q (.int (modAhead p m)) H'
section
variable {P : Program} {w : World} {K : PySem.W.Frag} {mg : Str → Option Value} {base : Heap}
theorem scModAhead : FnScope ["step", "modulus"] ["step", "modulus"] (defScope sModAhead) := ⟨rfl, rfl, rfl, by decide +kernel, rfl, by decide +kernel, by decide +kernel⟩
theorem ok_modAhead {f : Addr} {fd : FuncData} (F : Fun K "modulus_ahead" "modulus_ahead" sModAhead f fd) (mG : mg "gcd" = some (.builtin "math.gcd")) (mL : mg "lcm" = some (.builtin "math.lcm")) : FnOk P w K mg base CX0 1 f fd ["step", "modulus"] (spModAhead K) := by
  refine F.ok scModAhead (fun vs H Q E h => ?_) (fun cdv A outer s H vs Q E hr h => ?_)
  · obtain ⟨b, p, m, rfl, _⟩ := h
    rfl
  · obtain ⟨b, p, m, rfl, hb, hok, hm0, hmb, q⟩ := h
    have nd := scModAhead.nd
    refine ⟨_, pss_cons (ps_if (pt_cmpR op_eq (pe_ix (r := rIxT K) ix_tup (pv 0) pe_int (fun _ _ => rfl)) pe_str (nomark _)) (pss_one (ps_ret pe_int)) pss_nil)
      (pss_cons (ps_if (pt_cmpR op_eq (pe_ix (r := rIxT K) ix_tup (pv 0) pe_int (fun _ _ => rfl)) pe_str (nomark _)) (pss_one (ps_ret (pe_op op_fdivA (pv 1) (pe_callBfun cr_gcd (by rfl) mG (pa_cons (pe_ix (r := rIxT K) ix_tup (pv 0) pe_int (fun _ _ => rfl)) (pa_cons (pv 1) pa_nil)))))) pss_nil)
      (pss_cons (ps_if (pt_cmpR (r := rIn K false) op_in_seq (pe_ix (r := rIxT K) ix_tup (pv 0) pe_int (fun _ _ => rfl)) (pe_tup (pa_cons pe_str (pa_cons pe_str (pa_cons pe_str pa_nil)))) rfl) (pss_one (ps_ret (pe_callBfun cr_lcm (by rfl) mL (pa_cons (pe_ix (r := rIxT K) ix_tup (pv 0) pe_int (fun _ _ => rfl)) (pa_cons (pv 1) pa_nil))))) pss_nil)
      (pss_one (ps_ret (pv 1))))), ?_⟩
    have at0 : atI p.v 0 = some (.str p.name) := atI_nat (j := 0) rfl
    cases p with
    | line a1 b1 =>
      refine ⟨_, rfl, b, _, 0, .str _, rfl, rfl, hb, at0, rfl, _, rfl, ?_⟩
      refine ite2 (fun z => absurd z (by show ¬ decide (V.str ("line" : Str) = V.str ("count" : Str)) = true; decide +kernel)) (fun _ => ?_)
      refine ⟨_, rfl, b, _, 0, .str _, rfl, rfl, hb, at0, rfl, _, rfl, ?_⟩
      refine ite2 (fun _ => ?_) (fun z => absurd (by show decide (V.str ("line" : Str) = V.str ("line" : Str)) = true; decide +kernel) z)
      have at1 : atI (Stp.line a1 b1).v 1 = some (.int a1) := atI_nat (j := 1) rfl
      have g0 : 0 < Nat.gcd a1.natAbs m.natAbs := Nat.gcd_pos_of_pos_right _ (by clear hmb; omega)
      have g1 : Nat.gcd a1.natAbs m.natAbs ≤ m.natAbs := Nat.le_of_dvd (by clear hmb; omega) (Nat.gcd_dvd_right _ _)
      refine ⟨_, rfl, _, rfl, b, _, 1, .int a1, rfl, rfl, hb, at1, _, rfl, a1, m, rfl, m, _, rfl, rfl, ⟨Int.ne_of_gt (Int.natCast_pos.mpr g0), ?_⟩, ?_⟩
      · rw [Int.natAbs_natCast]
        exact Nat.lt_of_le_of_lt g1 (Nat.lt_trans hmb (Nat.pow_lt_pow_right (by decide) (by decide)))
      · have e : m.fdiv ((Nat.gcd a1.natAbs m.natAbs : Nat) : Int) = modAhead (.line a1 b1) m := Int.fdiv_eq_ediv_of_nonneg m (Int.natCast_nonneg _)
        have := q H (Same.refl H)
        rw [← e] at this
        exact this
    | turn m1 r1 a1 b1 =>
      refine ⟨_, rfl, b, _, 0, .str _, rfl, rfl, hb, at0, rfl, _, rfl, ?_⟩
      refine ite2 (fun z => absurd z (by show ¬ decide (V.str ("turn" : Str) = V.str ("count" : Str)) = true; decide +kernel)) (fun _ => ?_)
      refine ⟨_, rfl, b, _, 0, .str _, rfl, rfl, hb, at0, rfl, _, rfl, ?_⟩
      refine ite2 (fun z => absurd z (by show ¬ decide (V.str ("turn" : Str) = V.str ("line" : Str)) = true; decide +kernel)) (fun _ => ?_)
      refine ⟨_, rfl, b, _, 0, .str _, rfl, rfl, hb, at0, (by show 3 ≤ sizeLine; decide), fun t nt => ⟨t, _, rfl, .inr sqt_new, rfl, rfl, _, rfl, ?_⟩⟩
      have s1 := same_upd (o := .tup [V.str "turn", .str "keep", .str "anew"]) (Same.refl H) nt
      refine ite2 (fun _ => ?_) (fun z => absurd (by show inV (V.str ("turn" : Str)) [V.str ("turn" : Str), V.str ("keep" : Str), V.str ("anew" : Str)] = true; decide +kernel) z)
      have at1 : atI (Stp.turn m1 r1 a1 b1).v 1 = some (.int m1) := atI_nat (j := 1) rfl
      have hm1 : m1.natAbs < 2 ^ 6000 := Nat.lt_of_le_of_lt (m := 3) (by obtain ⟨h, _⟩ := hok; rcases h with rfl | rfl <;> decide) (Nat.lt_of_lt_of_le (by decide : 3 < 2 ^ 2) (Nat.pow_le_pow_right (by decide) (by decide)))
      exact ⟨_, rfl, b, _, 1, .int m1, rfl, rfl, sqt_same s1 hb, at1, _, rfl, m1, m, rfl, ⟨hm1, Nat.lt_trans hmb (Nat.pow_lt_pow_right (by decide) (by decide))⟩, q _ s1⟩
    | keep m1 r1 =>
      refine ⟨_, rfl, b, _, 0, .str _, rfl, rfl, hb, at0, rfl, _, rfl, ?_⟩
      refine ite2 (fun z => absurd z (by show ¬ decide (V.str ("keep" : Str) = V.str ("count" : Str)) = true; decide +kernel)) (fun _ => ?_)
      refine ⟨_, rfl, b, _, 0, .str _, rfl, rfl, hb, at0, rfl, _, rfl, ?_⟩
      refine ite2 (fun z => absurd z (by show ¬ decide (V.str ("keep" : Str) = V.str ("line" : Str)) = true; decide +kernel)) (fun _ => ?_)
      refine ⟨_, rfl, b, _, 0, .str _, rfl, rfl, hb, at0, (by show 3 ≤ sizeLine; decide), fun t nt => ⟨t, _, rfl, .inr sqt_new, rfl, rfl, _, rfl, ?_⟩⟩
      have s1 := same_upd (o := .tup [V.str "turn", .str "keep", .str "anew"]) (Same.refl H) nt
      refine ite2 (fun _ => ?_) (fun z => absurd (by show inV (V.str ("keep" : Str)) [V.str ("turn" : Str), V.str ("keep" : Str), V.str ("anew" : Str)] = true; decide +kernel) z)
      have at1 : atI (Stp.keep m1 r1).v 1 = some (.int m1) := atI_nat (j := 1) rfl
      have hm1 : m1.natAbs < 2 ^ 6000 := Nat.lt_of_le_of_lt (m := 3) (by obtain ⟨h, _⟩ := hok; rcases h with rfl | rfl <;> decide) (Nat.lt_of_lt_of_le (by decide : 3 < 2 ^ 2) (Nat.pow_le_pow_right (by decide) (by decide)))
      exact ⟨_, rfl, b, _, 1, .int m1, rfl, rfl, sqt_same s1 hb, at1, _, rfl, m1, m, rfl, ⟨hm1, Nat.lt_trans hmb (Nat.pow_lt_pow_right (by decide) (by decide))⟩, q _ s1⟩
    | every k1 r1 =>
      refine ⟨_, rfl, b, _, 0, .str _, rfl, rfl, hb, at0, rfl, _, rfl, ?_⟩
      refine ite2 (fun z => absurd z (by show ¬ decide (V.str ("every" : Str) = V.str ("count" : Str)) = true; decide +kernel)) (fun _ => ?_)
      refine ⟨_, rfl, b, _, 0, .str _, rfl, rfl, hb, at0, rfl, _, rfl, ?_⟩
      refine ite2 (fun z => absurd z (by show ¬ decide (V.str ("every" : Str) = V.str ("line" : Str)) = true; decide +kernel)) (fun _ => ?_)
      refine ⟨_, rfl, b, _, 0, .str _, rfl, rfl, hb, at0, (by show 3 ≤ sizeLine; decide), fun t nt => ⟨t, _, rfl, .inr sqt_new, rfl, rfl, _, rfl, ?_⟩⟩
      have s1 := same_upd (o := .tup [V.str "turn", .str "keep", .str "anew"]) (Same.refl H) nt
      refine ite2 (fun z => absurd z (by show ¬ inV (V.str ("every" : Str)) [V.str ("turn" : Str), V.str ("keep" : Str), V.str ("anew" : Str)] = true; decide +kernel)) (fun _ => ?_)
      exact ⟨_, rfl, q _ s1⟩
    | twice =>
      refine ⟨_, rfl, b, _, 0, .str _, rfl, rfl, hb, at0, rfl, _, rfl, ?_⟩
      refine ite2 (fun z => absurd z (by show ¬ decide (V.str ("twice" : Str) = V.str ("count" : Str)) = true; decide +kernel)) (fun _ => ?_)
      refine ⟨_, rfl, b, _, 0, .str _, rfl, rfl, hb, at0, rfl, _, rfl, ?_⟩
      refine ite2 (fun z => absurd z (by show ¬ decide (V.str ("twice" : Str) = V.str ("line" : Str)) = true; decide +kernel)) (fun _ => ?_)
      refine ⟨_, rfl, b, _, 0, .str _, rfl, rfl, hb, at0, (by show 3 ≤ sizeLine; decide), fun t nt => ⟨t, _, rfl, .inr sqt_new, rfl, rfl, _, rfl, ?_⟩⟩
      have s1 := same_upd (o := .tup [V.str "turn", .str "keep", .str "anew"]) (Same.refl H) nt
      refine ite2 (fun z => absurd z (by show ¬ inV (V.str ("twice" : Str)) [V.str ("turn" : Str), V.str ("keep" : Str), V.str ("anew" : Str)] = true; decide +kernel)) (fun _ => ?_)
      exact ⟨_, rfl, q _ s1⟩
    | sums =>
      refine ⟨_, rfl, b, _, 0, .str _, rfl, rfl, hb, at0, rfl, _, rfl, ?_⟩
      refine ite2 (fun z => absurd z (by show ¬ decide (V.str ("sums" : Str) = V.str ("count" : Str)) = true; decide +kernel)) (fun _ => ?_)
      refine ⟨_, rfl, b, _, 0, .str _, rfl, rfl, hb, at0, rfl, _, rfl, ?_⟩
      refine ite2 (fun z => absurd z (by show ¬ decide (V.str ("sums" : Str) = V.str ("line" : Str)) = true; decide +kernel)) (fun _ => ?_)
      refine ⟨_, rfl, b, _, 0, .str _, rfl, rfl, hb, at0, (by show 3 ≤ sizeLine; decide), fun t nt => ⟨t, _, rfl, .inr sqt_new, rfl, rfl, _, rfl, ?_⟩⟩
      have s1 := same_upd (o := .tup [V.str "turn", .str "keep", .str "anew"]) (Same.refl H) nt
      refine ite2 (fun z => absurd z (by show ¬ inV (V.str ("sums" : Str)) [V.str ("turn" : Str), V.str ("keep" : Str), V.str ("anew" : Str)] = true; decide +kernel)) (fun _ => ?_)
      exact ⟨_, rfl, q _ s1⟩
    | anew m1 r1 =>
      refine ⟨_, rfl, b, _, 0, .str _, rfl, rfl, hb, at0, rfl, _, rfl, ?_⟩
      refine ite2 (fun z => absurd z (by show ¬ decide (V.str ("anew" : Str) = V.str ("count" : Str)) = true; decide +kernel)) (fun _ => ?_)
      refine ⟨_, rfl, b, _, 0, .str _, rfl, rfl, hb, at0, rfl, _, rfl, ?_⟩
      refine ite2 (fun z => absurd z (by show ¬ decide (V.str ("anew" : Str) = V.str ("line" : Str)) = true; decide +kernel)) (fun _ => ?_)
      refine ⟨_, rfl, b, _, 0, .str _, rfl, rfl, hb, at0, (by show 3 ≤ sizeLine; decide), fun t nt => ⟨t, _, rfl, .inr sqt_new, rfl, rfl, _, rfl, ?_⟩⟩
      have s1 := same_upd (o := .tup [V.str "turn", .str "keep", .str "anew"]) (Same.refl H) nt
      refine ite2 (fun _ => ?_) (fun z => absurd (by show inV (V.str ("anew" : Str)) [V.str ("turn" : Str), V.str ("keep" : Str), V.str ("anew" : Str)] = true; decide +kernel) z)
      have at1 : atI (Stp.anew m1 r1).v 1 = some (.int m1) := atI_nat (j := 1) rfl
      have hm1 : m1.natAbs < 2 ^ 6000 := Nat.lt_of_le_of_lt (m := 3) (by obtain ⟨h, _⟩ := hok; rcases h with rfl | rfl <;> decide) (Nat.lt_of_lt_of_le (by decide : 3 < 2 ^ 2) (Nat.pow_le_pow_right (by decide) (by decide)))
      exact ⟨_, rfl, b, _, 1, .int m1, rfl, rfl, sqt_same s1 hb, at1, _, rfl, m1, m, rfl, ⟨hm1, Nat.lt_trans hmb (Nat.pow_lt_pow_right (by decide) (by decide))⟩, q _ s1⟩
    | gaps =>
      refine ⟨_, rfl, b, _, 0, .str _, rfl, rfl, hb, at0, rfl, _, rfl, ?_⟩
      refine ite2 (fun z => absurd z (by show ¬ decide (V.str ("gaps" : Str) = V.str ("count" : Str)) = true; decide +kernel)) (fun _ => ?_)
      refine ⟨_, rfl, b, _, 0, .str _, rfl, rfl, hb, at0, rfl, _, rfl, ?_⟩
      refine ite2 (fun z => absurd z (by show ¬ decide (V.str ("gaps" : Str) = V.str ("line" : Str)) = true; decide +kernel)) (fun _ => ?_)
      refine ⟨_, rfl, b, _, 0, .str _, rfl, rfl, hb, at0, (by show 3 ≤ sizeLine; decide), fun t nt => ⟨t, _, rfl, .inr sqt_new, rfl, rfl, _, rfl, ?_⟩⟩
      have s1 := same_upd (o := .tup [V.str "turn", .str "keep", .str "anew"]) (Same.refl H) nt
      refine ite2 (fun z => absurd z (by show ¬ inV (V.str ("gaps" : Str)) [V.str ("turn" : Str), V.str ("keep" : Str), V.str ("anew" : Str)] = true; decide +kernel)) (fun _ => ?_)
      exact ⟨_, rfl, q _ s1⟩
    | groups k1 =>
      refine ⟨_, rfl, b, _, 0, .str _, rfl, rfl, hb, at0, rfl, _, rfl, ?_⟩
      refine ite2 (fun z => absurd z (by show ¬ decide (V.str ("groups" : Str) = V.str ("count" : Str)) = true; decide +kernel)) (fun _ => ?_)
      refine ⟨_, rfl, b, _, 0, .str _, rfl, rfl, hb, at0, rfl, _, rfl, ?_⟩
      refine ite2 (fun z => absurd z (by show ¬ decide (V.str ("groups" : Str) = V.str ("line" : Str)) = true; decide +kernel)) (fun _ => ?_)
      refine ⟨_, rfl, b, _, 0, .str _, rfl, rfl, hb, at0, (by show 3 ≤ sizeLine; decide), fun t nt => ⟨t, _, rfl, .inr sqt_new, rfl, rfl, _, rfl, ?_⟩⟩
      have s1 := same_upd (o := .tup [V.str "turn", .str "keep", .str "anew"]) (Same.refl H) nt
      refine ite2 (fun z => absurd z (by show ¬ inV (V.str ("groups" : Str)) [V.str ("turn" : Str), V.str ("keep" : Str), V.str ("anew" : Str)] = true; decide +kernel)) (fun _ => ?_)
      exact ⟨_, rfl, q _ s1⟩
    | count =>
      refine ⟨_, rfl, b, _, 0, .str _, rfl, rfl, hb, at0, rfl, _, rfl, ?_⟩
      refine ite2 (fun _ => ?_) (fun z => absurd (by show decide (V.str ("count" : Str) = V.str ("count" : Str)) = true; decide +kernel) z)
      exact q H (Same.refl H)
end
end FC
set_option Elab.async false
set_option linter.all false
set_option maxRecDepth 100000
set_option maxHeartbeats 4000000
/-! moduli_of. -/
namespace FC
open PySem PySem.Spec PyProof.Rows L2
theorem modAhead_le {p : Stp} (hp : p.ok) {m : Int} (h0 : 0 < m) : 0 < modAhead p m ∧ modAhead p m ≤ 3 * m := by
  have lc : ∀ k : Int, two3 k → 0 < ilcm k m ∧ ilcm k m ≤ 3 * m := fun k hk => by
    have h1 : 0 < Nat.lcm k.natAbs m.natAbs := Nat.lcm_pos (by rcases hk with rfl | rfl <;> decide) (by omega)
    have h2 : Nat.lcm k.natAbs m.natAbs ≤ k.natAbs * m.natAbs := Nat.div_le_self _ _
    unfold ilcm
    rcases hk with rfl | rfl
    · have h2 : Nat.lcm 2 m.natAbs ≤ 2 * m.natAbs := h2
      have h1 : 0 < Nat.lcm 2 m.natAbs := h1
      show 0 < ((Nat.lcm 2 m.natAbs : Nat) : Int) ∧ ((Nat.lcm 2 m.natAbs : Nat) : Int) ≤ 3 * m
      omega
    · have h2 : Nat.lcm 3 m.natAbs ≤ 3 * m.natAbs := h2
      have h1 : 0 < Nat.lcm 3 m.natAbs := h1
      show 0 < ((Nat.lcm 3 m.natAbs : Nat) : Int) ∧ ((Nat.lcm 3 m.natAbs : Nat) : Int) ≤ 3 * m
      omega
  have pl : 0 < m ∧ m ≤ 3 * m := ⟨h0, by omega⟩
  cases p with
  | line a b =>
    show 0 < m / ((Nat.gcd a.natAbs m.natAbs : Nat) : Int) ∧ m / ((Nat.gcd a.natAbs m.natAbs : Nat) : Int) ≤ 3 * m
    have g0 : 0 < Nat.gcd a.natAbs m.natAbs := Nat.gcd_pos_of_pos_right _ (by omega)
    have g1 : Nat.gcd a.natAbs m.natAbs ≤ m.natAbs := Nat.le_of_dvd (by omega) (Nat.gcd_dvd_right _ _)
    refine ⟨Int.ediv_pos_of_pos_of_dvd h0 (Int.natCast_nonneg _) ?_, Int.le_trans (Int.ediv_le_self _ (Int.le_of_lt h0)) pl.2⟩
    exact Int.ofNat_dvd_left.mpr (Nat.gcd_dvd_right _ _)
  | turn k r a b => exact lc k hp.1
  | keep k r => exact lc k hp.1
  | anew k r => exact lc k hp.1
  | count => exact ⟨by show (0 : Int) < 1; decide, by show (1 : Int) ≤ 3 * m; omega⟩
  | every k r => exact pl
  | twice => exact pl
  | sums => exact pl
  | gaps => exact pl
  | groups k => exact pl
theorem moduli_le : ∀ {ps : List Stp}, (∀ p ∈ ps, p.ok) → 0 < (moduliOf ps).2 ∧ (moduliOf ps).2 ≤ 3 ^ ps.length ∧ (moduliOf ps).1.length = ps.length ∧ ∀ m ∈ (moduliOf ps).1, 0 < m ∧ m ≤ 3 ^ ps.length
  | [], _ => ⟨by decide, by decide, rfl, fun m h => nomatch h⟩
  | p :: ps, h => by
    obtain ⟨h1, h2, h3, h4⟩ := moduli_le (ps := ps) fun q hq => h q (List.mem_cons_of_mem _ hq)
    obtain ⟨h5, h6⟩ := modAhead_le (h p List.mem_cons_self) h1
    have e : (3 : Int) ^ (p :: ps).length = 3 ^ ps.length * 3 := by rw [List.length_cons, Int.pow_succ]
    rw [e]
    refine ⟨h5, ?_, ?_, fun m hm => ?_⟩
    · show modAhead p (moduliOf ps).2 ≤ _
      omega
    · show (moduliOf ps).1.length + 1 = ps.length + 1
      rw [h3]
    · have hm : m ∈ (moduliOf ps).2 :: (moduliOf ps).1 := hm
      rcases List.mem_cons.mp hm with z | z
      · rw [z]
        omega
      · have := h4 m z
        omega
theorem pow3_lt {n : Nat} (h : n ≤ 10) {m : Int} (h0 : 0 < m) (h1 : m ≤ 3 ^ n) : m.natAbs < 2 ^ 2000 := by
  have h2 : (3 : Int) ^ n ≤ 3 ^ 10 := by
    have : (3 : Nat) ^ n ≤ 3 ^ 10 := Nat.pow_le_pow_right (by decide) h
    exact_mod_cast this
  have h3 : m.natAbs < 2 ^ 20 := by
    have : (3 : Int) ^ 10 = 59049 := by decide
    have e : (2 : Nat) ^ 20 = 1048576 := by decide
    rw [e]
    omega
  exact Nat.lt_of_lt_of_le h3 (Nat.pow_le_pow_right (by decide) (by decide))
def spModuliOf (K : PySem.W.Frag) : Sp := fun vs H Q _ => ∃ (c : Addr) (ps : List Stp), vs = [.ref c] ∧ StpsAt K H c ps ∧ (∀ p ∈ ps, p.ok) ∧ ps.length ≤ 10 ∧
  ∀ (t l : Addr) H', Same H H' → SqT K H' t [.ref l, .int (moduliOf ps).2] → (∃ o, H' l = some (.frz o (.lst ((moduliOf ps).1.map V.int)))) → Q (.ref t) H'
section
variable {P : Program} {w : World} {K : PySem.W.Frag} {mg : Str → Option Value} {base : Heap}
theorem scModuliOf : FnScope ["chain", "backwards", "modulus", "step"] ["chain"] (defScope sModuliOf) := ⟨rfl, rfl, rfl, by decide +kernel, rfl, by decide +kernel, by decide +kernel⟩
theorem ok_moduliOf {f : Addr} {fd : FuncData} (F : Fun K "moduli_of" "moduli_of" sModuliOf f fd) (mR : mg "reversed" = none) (CM : Cal P w K mg base CX0 1 "modulus_ahead" ["step", "modulus"] (spModAhead K)) : FnOk P w K mg base CX0 2 f fd ["chain"] (spModuliOf K) := by
  refine F.ok scModuliOf (fun vs H Q E h => ?_) (fun cdv A outer s H vs Q E hr h => ?_)
  · obtain ⟨c, ps, rfl, _⟩ := h
    rfl
  · obtain ⟨c, ps, rfl, hc, hok, hl, q⟩ := h
    have nd := scModuliOf.nd
    refine ⟨_, pss_cons (ps_set (i := 1) nd rfl (Or.inl rfl) (pe_lst pa_nil))
      (pss_cons (ps_set (i := 2) nd rfl (Or.inl rfl) pe_int)
      (pss_cons (ps_for PassesOwn.never rfl (RT.pi_revA (by rfl) mR (pv 0)) (pg_name (i := 3) nd rfl (Or.inl rfl))
        (pss_cons (ps_expr (pe_bm PySem.F.plainAttrs_list PySem.F.slot_list_append PySem.F.type_list_append mt_append (pv 1) (pa_cons (pv 2) pa_nil)))
        (pss_one (ps_set (i := 2) nd rfl (Or.inl rfl) (pe_cal CM hr pass0 (pa_cons (pv 3) (pa_cons (pv 2) pa_nil)))))))
      (pss_one (ps_ret (pe_tup (pa_cons (pe_frz (pe_revL (pv 1))) (pa_cons (pv 2) pa_nil))))))), ?_⟩
    obtain ⟨xs, x1, x2, x3⟩ := id hc
    refine ⟨(by show 0 ≤ sizeLine; omega), fun l hl0 => ?_⟩
    have s0 := same_upd (o := .lst []) (Same.refl H) hl0
    have e0 : upd H l (.lst []) l = some (.lst []) := upd_same
    generalize upd H l (.lst []) = H1 at s0 e0
    have sOff : ∀ {G : Hp}, OffD l H1 G → Same H G := fun o b ob h => o b ob (ne_of_none h hl0) (s0 b ob h)
    refine ⟨_, rfl, c, xs, rfl, .inr ⟨sqt_same s0 x1, RT.for_ItvT (K := K) (a := c) (xs := xs) (fun i σ G => i ≤ ps.length ∧ OffD l H1 G ∧ G l = some (.lst ((moduliOf (ps.drop (ps.length - i))).1.reverse.map V.int)) ∧ ∃ y, σ = [some (.ref c), some (.ref l), some (.int (moduliOf (ps.drop (ps.length - i))).2), y])
      ⟨Nat.zero_le _, fun b o _ h => h, ?_, none, ?_⟩ (fun i σ G p => sqt_same (sOff p.2.1) x1) ?_ ?_⟩⟩
    · rw [Nat.sub_zero, List.drop_length]
      exact e0
    · rw [Nat.sub_zero, List.drop_length]
      rfl
    · rintro i v σ G hi hv ⟨hip, hO, hG, y, rfl⟩
      obtain ⟨p, hp⟩ : ∃ p, ps[xs.length - 1 - i]? = some p := ⟨ps[xs.length - 1 - i]'(by omega), List.getElem?_eq_getElem (by omega)⟩
      obtain ⟨b, rfl, hb⟩ := x3 _ v p hv hp
      have hd : ps.drop (ps.length - (i + 1)) = p :: ps.drop (ps.length - i) := by
        have e1 : ps.length - (i + 1) = xs.length - 1 - i := by omega
        have e2 : ps.length - i = (xs.length - 1 - i) + 1 := by omega
        rw [e1, e2, List.drop_eq_getElem_cons (by omega)]
        congr 1
        exact Option.some.inj ((List.getElem?_eq_getElem (by omega)).symm.trans hp)
      have hok2 : ∀ r ∈ ps.drop (ps.length - i), r.ok := fun r hr => hok r (List.mem_of_mem_drop hr)
      obtain ⟨m1, m2, m3, m4⟩ := moduli_le hok2
      have hdl : (ps.drop (ps.length - i)).length ≤ 10 := by rw [List.length_drop]; omega
      refine ⟨_, rfl, .inl ⟨rfl, _, SqL.of hG⟩, _, rfl, l, _, _, rfl, rfl, hG, ?_, ?_⟩
      · rw [List.length_map, List.length_reverse, m3]
        exact small1000 (by omega)
      · have hO2 : OffD l H1 (upd G l (.lst ((moduliOf (ps.drop (ps.length - i))).1.reverse.map V.int ++ [V.int (moduliOf (ps.drop (ps.length - i))).2]))) := hO.upd
        refine ⟨_, rfl, _, rfl, b, p, _, rfl, sqt_same (sOff hO2) hb, hok p (List.mem_of_getElem? hp), m1, pow3_lt hdl m1 m2, fun H5 s5 => ?_⟩
        refine ⟨by omega, OffD.trans hO2 (.same s5), ?_, some (.ref b), ?_⟩
        · rw [s5 _ _ upd_same, hd]
          show some (HO.lst _) = some (HO.lst ((((moduliOf (ps.drop (ps.length - i))).2 :: (moduliOf (ps.drop (ps.length - i))).1).reverse).map V.int))
          rw [List.reverse_cons, List.map_append]
          rfl
        · rw [hd]
          rfl
    · rintro σ G ⟨hip, hO, hG, y, rfl⟩
      rw [x2, Nat.sub_self, List.drop_zero] at hG ⊢
      refine ⟨_, rfl, l, _, rfl, SqL.of hG, fun r hr => .inr ⟨r, _, rfl, upd_same, True.intro, fun ob => ⟨_, rfl, (by show 2 ≤ sizeLine; decide), fun t ht => ?_⟩⟩⟩
      rw [upd_upd] at ht ⊢
      have s3 := same_upd (o := .frz ob (.lst ((moduliOf ps).1.reverse.map V.int).reverse)) (sOff hO) hr
      have s4 := same_upd (o := .tup [V.ref r, .int (moduliOf ps).2]) (Same.refl _) ht
      refine q t r _ (Same.trans s3 s4) sqt_new ⟨ob, s4 _ _ ?_⟩
      rw [upd_same, List.map_reverse, List.reverse_reverse]
end
end FC
set_option Elab.async false
set_option linter.all false
set_option maxRecDepth 100000
set_option maxHeartbeats 4000000
/-! zip of a list and a tuple. -/
namespace FC
open PySem PySem.Spec PyProof.Rows L2
theorem draws_tup {P : Program} {w : World} {A : Around} (hh : A.handled = none) (it l : Addr) (ne : l ≠ it) (us : Array Value) :
    Draws P w A it [it, l] us.size (fun i v => us[i]? = some v) (fun i h => h.IsTupleIter it l i ∧ h.IsTuple l us) where
  live := fun _ _ st => let ⟨o, e, _⟩ := st.1; ⟨o, e⟩
  frame := fun _ _ _ st k => ⟨st.1.at fun o e => k it (by simp) o e, st.2.at fun o e => k l (by simp) o e⟩
  item := fun i s Q E hi st q => by
    refine RZ.nextOf_tuple_item st.1 st.2 (x := us[i]) (by simp [hi]) fun h' st' sb => ?_
    exact q _ h' s.toks (by simp [hi]) ⟨st', st.2.extBut sb.extBut ne⟩ sb
  done := fun s Q E st e => RZ.nextOf_tuple_end hh st.1 st.2 (by simp) e
section
abbrev mzH1 (h : Heap) (l : Addr) : Heap := h.push { cls := .type "list_iterator", data := .fields #[.ref l, .int 0 0] }
abbrev mzH2 (h : Heap) (l t : Addr) : Heap := (mzH1 h l).push { cls := .type "tuple_iterator", data := .fields #[.ref t, .int 0 0] }
abbrev mzH3 (h : Heap) (l t : Addr) : Heap := (mzH2 h l t).push { cls := .type "tuple", data := .seq #[.ref h.objs.size, .ref (mzH1 h l).objs.size] }
abbrev mzH4 (h : Heap) (l t : Addr) : Heap := (mzH3 h l t).push { cls := .type "tuple", data := .seq #[.none, .none] }
abbrev mzH5 (h : Heap) (l t : Addr) : Heap := (mzH4 h l t).push { cls := .type "zip", data := .fields #[.none, .bool false, .bool false, .ref (mzH2 h l t).objs.size, .ref (mzH3 h l t).objs.size] }
theorem meets_mz (l t : Addr) (xs ys : Array Value) :
    Meets (Builtin.«zip.__new__» ⟨[.type "zip", .ref l, .ref t], []⟩) (fun _ R s => s.heap.IsList l xs ∧ s.heap.IsTuple t ys ∧ R (.ok (.ret (.ref (mzH4 s.heap l t).objs.size))) { s with heap := mzH5 s.heap l t }) :=
  .of_wp fun prog w A R s h => by
    obtain ⟨hp, g, d, tk, os⟩ := s
    obtain ⟨a1, a2, a3⟩ := h
    have hsub := sub_zip
    have b1 : Heap.IsList (Shared.heap ⟨hp, g, d, tk, os⟩) l xs := a1
    have b2 : Heap.IsTuple (Shared.heap ⟨mzH1 hp l, g, d, tk, os⟩) t ys := Heap.IsTuple.push a2 _
    wp_walk using wpAny_pyIter_list b1, wpAny_pyIter_tuple b2
    exact ⟨_, rfl, a3⟩
variable {prog : Program} {w : World} {A : Around} {E : Value → Shared → Prop} {s : Shared}
theorem call_mz {l t : Addr} {xs ys : Array Value} {Q : Value → Shared → Prop} (a1 : s.heap.IsList l xs) (a2 : s.heap.IsTuple t ys)
    (k : ∀ h', IsZip h' (s.heap.objs.size + 4) (s.heap.objs.size + 2) (s.heap.objs.size + 3) .none → IsPair h' (s.heap.objs.size + 2) (.ref s.heap.objs.size) (.ref (s.heap.objs.size + 1)) →
      IsPair h' (s.heap.objs.size + 3) .none .none → h'.IsListIter s.heap.objs.size l 0 → h'.IsTupleIter (s.heap.objs.size + 1) t 0 →
      (∀ c o, s.heap.get? c = some o → h'.get? c = some o) → Q (.ref (s.heap.objs.size + 4)) { s with heap := h' }) : wpAny (model prog w) A (call (.type "zip") [.ref l, .ref t]) Q E s := by
  refine callType_new F.called_zip (by decide) (F.typeCall_zip_2 _ _) (F.newCall_zip_2 _ _) (fun obj => F.args_object_init_3 obj _ _) F.entry_zip_new (meets_mz l t xs ys) ⟨a1, a2, ?_⟩
  have z1 : (mzH1 s.heap l).objs.size = s.heap.objs.size + 1 := Heap.size_push ..
  have z2 : (mzH2 s.heap l t).objs.size = s.heap.objs.size + 2 := by rw [Heap.size_push, z1]
  have z3 : (mzH3 s.heap l t).objs.size = s.heap.objs.size + 3 := by rw [Heap.size_push, z2]
  have z4 : (mzH4 s.heap l t).objs.size = s.heap.objs.size + 4 := by rw [Heap.size_push, z3]
  have p5 : (mzH5 s.heap l t).get? (mzH4 s.heap l t).objs.size = some _ := Heap.get?_push_size _ rfl
  have p4 : (mzH5 s.heap l t).get? (mzH3 s.heap l t).objs.size = some _ := Heap.get?_push_of_some _ (Heap.get?_push_size _ rfl)
  have p3 : (mzH5 s.heap l t).get? (mzH2 s.heap l t).objs.size = some _ := Heap.get?_push_of_some _ (Heap.get?_push_of_some _ (Heap.get?_push_size _ rfl))
  have p2 : (mzH5 s.heap l t).get? (mzH1 s.heap l).objs.size = some _ := Heap.get?_push_of_some _ (Heap.get?_push_of_some _ (Heap.get?_push_of_some _ (Heap.get?_push_size _ rfl)))
  have p1 : (mzH5 s.heap l t).get? s.heap.objs.size = some _ := Heap.get?_push_of_some _ (Heap.get?_push_of_some _ (Heap.get?_push_of_some _ (Heap.get?_push_of_some _ (Heap.get?_push_size _ rfl))))
  show _ ∧ _
  rw [z2, z3, z4] at p5
  rw [z1, z2] at p3
  rw [z3] at p4
  rw [z1] at p2
  rw [z4]
  exact ⟨⟨_, p5, rfl⟩, k _ p5 p3 p4 ⟨_, p1, rfl, rfl⟩ ⟨_, p2, rfl, rfl⟩ fun c o x => Heap.get?_push_of_some _ (Heap.get?_push_of_some _ (Heap.get?_push_of_some _ (Heap.get?_push_of_some _ (Heap.get?_push_of_some _ x))))⟩
end
theorem mz_sep {z TI TO i1 i2 a b : Addr} (D : ZipApart z TI TO i1 i2 a b) : ZipSep2 z TI TO i1 i2 [i1, a] [i2, b] where
  TIz := D.TIz
  TOz := D.TOz
  TITO := D.TITO
  TIi1 := D.TIi1
  mem1 := by simp
  zf1 := by simp [D.i1z.symm, D.l1z.symm]
  Tf1 := by simp [D.TOi1, D.l1TO.symm]
  TIi2 := D.TIi2
  mem2 := by simp
  zf2 := by simp [D.i2z.symm, D.l2z.symm]
  Tf2 := by simp [D.TOi2, D.l2TO.symm]
  sep1_2 := by simp [D.i12, D.l2i1.symm]
  sep2_1 := by simp [D.i12.symm, D.l1i2.symm]
/-- the list at a and the tuple at b, the items in new pairs -/
def ItM (K : PySem.W.Frag) (a b : Addr) : It :=
  ⟨fun i H => ∃ (xs ys : List V) (x y : V), SqL K H a xs ∧ SqT K H b ys ∧ xs[i]? = some x ∧ ys[i]? = some y,
    fun i H v H' => ∃ T x y, v = .ref T ∧ H T = none ∧ H' = upd H T (.tup [x, y]) ∧ (∀ xs, SqL K H a xs → xs[i]? = some x) ∧ ∀ ys, SqT K H b ys → ys[i]? = some y,
    fun i H => ∃ xs ys : List V, SqL K H a xs ∧ SqT K H b ys ∧ xs.length = i ∧ ys.length = i⟩
theorem turn_m {P : Program} {w : World} {K : PySem.W.Frag} {elts : List Expr} {kk : Nat} {tpos : Pos} {a b z TI TO i1 i2 : Addr} (D : ZipApart z TI TO i1 i2 a b) :
    Turn P w K (.Tuple elts kk tpos) (ItM K a b) [z, TI, TO, i1, i2] z (fun i h => IsZip h z TI TO .none ∧ IsPair h TI (.ref i1) (.ref i2) ∧ (∃ x y, IsPair h TO x y) ∧ h.IsListIter i1 a i ∧ h.IsTupleIter i2 b i) where
  mem := by simp
  obj := fun i h st c hc => by
    obtain ⟨c1, c2, ⟨x, y, c3⟩, ⟨o1, e1, _, d1⟩, ⟨o2, e2, _, d2⟩⟩ := st
    have hc' : c = z ∨ c = TI ∨ c = TO ∨ c = i1 ∨ c = i2 := by simpa using hc
    rcases hc' with rfl | rfl | rfl | rfl | rfl
    · exact ⟨_, c1, fun v q => nomatch q⟩
    · exact ⟨_, c2, fun v q => nomatch q⟩
    · exact ⟨_, c3, fun v q => nomatch q⟩
    · exact ⟨o1, e1, fun v q => by rw [d1] at q; cases q⟩
    · exact ⟨o2, e2, fun v q => by rw [d2] at q; cases q⟩
  keep := fun i h h' st k => by
    obtain ⟨c1, c2, ⟨x, y, c3⟩, c4, c5⟩ := st
    exact ⟨k z (by simp) _ c1, k TI (by simp) _ c2, ⟨x, y, k TO (by simp) _ c3⟩, c4.at fun o q => k i1 (by simp) o q, c5.at fun o q => k i2 (by simp) o q⟩
  item := by
    intro X hP hw hK hc i pins s σ H E I hf st hg
    subst hP hw hK
    obtain ⟨c1, c2, ⟨x0, y0, c3⟩, c4, c5⟩ := st
    obtain ⟨xs, ys, x, y, qx, qy, ex, ey⟩ := hg
    obtain ⟨us, ru, pl, _⟩ := I.list qx
    obtain ⟨ws, rw', pt, _⟩ := I.tuple qy
    obtain ⟨u, hu, r1⟩ := ru.get ex
    obtain ⟨v, hv, r2⟩ := rw'.get ey
    have lz : z < s.heap.objs.size := Heap.lt_size c1
    have hh : X.A.in1.handled = none := I.ok.hd hc
    have hul : i < us.length := get_lt hu
    have hvl : i < ws.length := get_lt hv
    refine wpAny_pyNext_zipD2_item (mz_sep D) (Draws.list hh i1 a D.l1i1 us.toArray) (draws_tup hh i2 b D.l2i2 ws.toArray) c1 c2 c3 ⟨c4, pl.isList⟩ ⟨c5, pt⟩ (by simpa using hul) (by simpa using hvl) fun u1 v1 h' tk e1 e2 z' TO' st1 st2 hT _ hk => ?_
    obtain rfl : u = u1 := Option.some.inj (hu.symm.trans (by simpa using e1))
    obtain rfl : v = v1 := Option.some.inj (hv.symm.trans (by simpa using e2))
    refine ⟨_, rfl, wpAny_letOwnedTupleGo_zip (s := { s with heap := h', toks := tk }) z' fun h'' z'' sb => ?_⟩
    have hT2 : h''.get? s.heap.objs.size = some { cls := .type "tuple", data := .seq #[u, v] } := (sb.2 _ (Nat.ne_of_gt lz)).trans hT
    have nw : ObjOk X.prog X.w (upd H s.heap.objs.size (.tup [x, y])) h'' s.heap.objs.size (.tup [x, y]) := ⟨(by show 2 ≤ sizeLine; decide), [u, v], .cons r1 (.cons r2 .nil), ⟨_, hT2, rfl, _, rfl⟩⟩
    have I1 : Inv X pins σ (upd H s.heap.objs.size (.tup [x, y])) { s with heap := h'', toks := tk } :=
      I.turnedNew (t' := tk) (ch := [z, TI, TO, i1, i2]) (fun c o hb q => (sb.2 c (fun e => hb (by simp [e]))).trans (hk c o (fun e => hb (by simp [e])) (fun e => hb (by simp [e])) (fun e => hb (by simp [e])) (fun e => hb (by simp [e])) q)) hf (Nat.le_refl _) nw
    refine ⟨.ref s.heap.objs.size, _, I1, rfl, ⟨_, x, y, rfl, I.hok.fresh (Nat.le_refl _), rfl, fun l hl => by rw [I.list_inj hl qx]; exact ex, fun l hl => by rw [I.tuple_inj hl qy]; exact ey⟩, ⟨z'', ?_, ⟨u, v, ?_⟩, ?_, ?_⟩, fun c hcm => ?_⟩
    · exact (sb.2 _ D.TIz).trans (hk _ _ D.TIz D.TITO D.TIi1 D.TIi2 c2)
    · exact (sb.2 _ D.TOz).trans TO'
    · exact st1.1.at fun o q => (sb.2 _ D.i1z).trans q
    · exact st2.1.at fun o q => (sb.2 _ D.i2z).trans q
    · have lt : c < s.heap.objs.size := by
        have hc' : c = z ∨ c = TI ∨ c = TO ∨ c = i1 ∨ c = i2 := by simpa using hcm
        rcases hc' with e | e | e | e | e <;> rw [e]
        · exact lz
        · exact Heap.lt_size c2
        · exact Heap.lt_size c3
        · obtain ⟨_, e1, _⟩ := c4; exact Heap.lt_size e1
        · obtain ⟨_, e2, _⟩ := c5; exact Heap.lt_size e2
      rw [upd_ne (Nat.ne_of_lt lt)]
      exact (hf c hcm).1
  done := by
    intro X hP hw hK hc i pins s σ H E I hf st hg
    subst hP hw hK
    obtain ⟨c1, c2, ⟨x0, y0, c3⟩, c4, c5⟩ := st
    obtain ⟨xs, ys, qx, qy, l1, l2⟩ := hg
    obtain ⟨us, ru, pl, _⟩ := I.list qx
    obtain ⟨ws, rw', pt, _⟩ := I.tuple qy
    have n1 := ru.length
    have n2 := rw'.length
    have hh : X.A.in1.handled = none := I.ok.hd hc
    refine wpAny_pyNext_zipD2_end (mz_sep D) (Draws.list hh i1 a D.l1i1 us.toArray) (draws_tup hh i2 b D.l2i2 ws.toArray) c1 c2 c3 ⟨c4, pl.isList⟩ ⟨c5, pt⟩ (by simp; omega) (by simp; omega) (.inl (by simp; omega)) fun h' tk hk => ?_
    exact ⟨rfl, I.turnedL (t' := tk) (ch := [z, TI, TO, i1, i2]) (fun c o hb q => hk c o (fun e => hb (by simp [e])) (fun e => hb (by simp [e])) (fun e => hb (by simp [e])) (fun e => hb (by simp [e])) q) hf⟩
  self := fun A i s Q E st h => wpAny_pyIter_zip st.1 h
/-- zip(list, tuple) -/
def iZipM (K : PySem.W.Frag) (ta : TA) : TI := fun σ H R => ta σ H fun vs H1 => ∃ a b xs ys, vs = [.ref a, .ref b] ∧ SqL K H1 a xs ∧ SqT K H1 b ys ∧ R (ItM K a b) H1
theorem pi_zipM {X : Cx} {e e2 : Expr} {ta : TA} {p pos tpos : Pos} {elts : List Expr} {kk : Nat} (hg : Gl X "zip") (hm : X.mg "zip" = none) (ha : PA X [e, e2] ta)
    (st : starEach [e, e2] X.env = (false, eval e X.env) :: starEach [e2] X.env := by rfl) (pl : (backTo pos (starEach [e2] X.env)).any (·.1) = false := by rfl) :
    PI X (.Tuple elts kk tpos) (.Call (.Name "zip" p) [e, e2] [] pos) (iZipM X.K ta) := by
  refine ⟨fun pins s σ H R I w => ?_⟩
  refine Call_ (ld_blt I hg hm PyProof.Rows.boot_zip (PyProof.Rows.callWith_type1 (thn (ha.run pos pins s σ H _ I w) fun us s1 ⟨vs, H1, I1, r1, a, b, xs, ys, ev, qx, qy, q⟩ => ?_) st pl))
  subst ev
  obtain ⟨u, v, rfl, ru, rv⟩ := vals2 r1
  obtain rfl : u = Value.ref a := ru
  obtain rfl : v = Value.ref b := rv
  have fr : ∀ c, c ∈ [s1.heap.objs.size + 4, s1.heap.objs.size + 2, s1.heap.objs.size + 3, s1.heap.objs.size, s1.heap.objs.size + 1] → FpOk X pins H1 c := fun c hcm => by
    have le : s1.heap.objs.size ≤ c := by
      have hc' : c = s1.heap.objs.size + 4 ∨ c = s1.heap.objs.size + 2 ∨ c = s1.heap.objs.size + 3 ∨ c = s1.heap.objs.size ∨ c = s1.heap.objs.size + 1 := by simpa using hcm
      omega
    exact I1.fpOk le (I1.hok.fresh le)
  obtain ⟨us, rw1, p1, _⟩ := I1.list qx
  obtain ⟨ws, rw2, p2, _⟩ := I1.tuple qy
  obtain ⟨o2, ho2, _⟩ := id p2
  refine call_mz p1.isList (show s1.heap.IsTuple b ws.toArray from p2) fun h' c1 c2 c3 c4 c5 hk => wpAny_pyIter_zip c1 ?_
  have I2 : Inv X pins σ H1 { s1 with heap := h' } := I1.kept (t' := s1.toks) hk
  exact ⟨s1.heap.objs.size + 4, [s1.heap.objs.size + 4, s1.heap.objs.size + 2, s1.heap.objs.size + 3, s1.heap.objs.size, s1.heap.objs.size + 1], _, _, H1, rfl, I2, turn_m (PySem.W.ktu_apart s1.heap.objs.size a b p1.lt (Heap.lt_size ho2)), ⟨c1, c2, ⟨_, _, c3⟩, c4, c5⟩, fr, q⟩
theorem walk_m {K : PySem.W.Frag} {a b : Addr} {xs ys : List V} (hl : xs.length = ys.length) : Walk (ItM K a b) xs.length (fun H => SqL K H a xs ∧ SqT K H b ys) (YPair (fun i => xs[i]?) (fun i => ys[i]?)) := by
  refine ⟨fun i _ hi q => ⟨xs, ys, xs[i], ys[i]'(by omega), q.1, q.2, by simp [hi], by simp [show i < ys.length by omega]⟩, fun _ q => ⟨xs, ys, q.1, q.2, rfl, hl.symm⟩, fun i H v H' _ q y => ?_⟩
  obtain ⟨T, x, y, e1, e2, e3, e4, e5⟩ := y
  exact ⟨T, x, y, e1, e2, e3, e4 xs q.1, e5 ys q.2⟩
end FC
set_option Elab.async false
set_option linter.all false
set_option maxRecDepth 100000
set_option maxHeartbeats 4000000
/-! Dicts whose keys are tuples of tuples. -/
namespace FN
open PySem Sem
section
variable {prog : Program} {w : World} {κ : Type} [DecidableEq κ] {knd : KeyKind prog w κ}
inductive NestAre (knd : KeyKind prog w κ) (h : Heap) : List (List κ) → List Value → Prop
  | nil : NestAre knd h [] []
  | cons {k : List κ} {b : Addr} {ks : List (List κ)} {vs : List Value} : IsTupleKey knd h k b → NestAre knd h ks vs → NestAre knd h (k :: ks) (.ref b :: vs)
def IsNest (knd : KeyKind prog w κ) (h : Heap) (ks : List (List κ)) (a : Addr) : Prop := ∃ o items n, h.get? a = some o ∧ o.cls = .type "tuple" ∧ o.data = .seq items n ∧ NestAre knd h ks items.toList
theorem NestAre.inj {h : Heap} {x y : List (List κ)} {vs : List Value} (p : NestAre knd h x vs) (q : NestAre knd h y vs) : x = y := by
  induction p generalizing y with
  | nil => cases q; rfl
  | cons h1 _ ih =>
    cases q with
    | cons h2 t2 => rw [h1.inj h2, ih t2]
theorem IsNest.inj {h : Heap} {a : Addr} {x y : List (List κ)} (p : IsNest knd h x a) (q : IsNest knd h y a) : x = y := by
  obtain ⟨o, its, n, e1, _, e2, r⟩ := p
  obtain ⟨o', its', n', e1', _, e2', r'⟩ := q
  cases e1.symm.trans e1'
  rw [e2] at e2'
  injection e2' with z _
  subst z
  exact r.inj r'
theorem NestAre.keeps {h h' : Heap} {d : Addr} {o : Obj} {es ep} {x : List (List κ)} {vs : List Value} (p : NestAre knd h x vs) (ho : h.get? d = some o) (hd : o.data = .dict es ep) (hs : Heap.SameBut d h h') : NestAre knd h' x vs := by
  induction p with
  | nil => exact .nil
  | cons h1 _ ih => exact .cons (h1.keeps ho hd hs) ih
theorem IsNest.keeps {h h' : Heap} {a d : Addr} {o : Obj} {es ep} {x : List (List κ)} (p : IsNest knd h x a) (ho : h.get? d = some o) (hd : o.data = .dict es ep) (hs : Heap.SameBut d h h') : IsNest knd h' x a := by
  obtain ⟨o', its, n, e1, e2, e3, r⟩ := p
  have hne : a ≠ d := fun z => by
    rw [z, ho] at e1
    cases e1
    rw [hd] at e3
    cases e3
  exact ⟨o', its, n, (hs.2 a hne).trans e1, e2, e3, r.keeps ho hd hs⟩
theorem IsNest.typeIs {s : Shared} {x : List (List κ)} {a : Addr} (p : IsNest knd s.heap x a) : s.TypeIs (.ref a) "tuple" := let ⟨o, _, _, ho, hc, _⟩ := p; ⟨o, ho, hc⟩
def nestHash (knd : KeyKind prog w κ) (ks : List (List κ)) : Int := reduceHash (Builtin.Tuple.tupleHashOf (ks.map (tupleKeyHash knd)))
def nestDraws (ks : List (List κ)) : Nat := (ks.map fun k => k.length + 1).sum + 1
variable {A : Around} {E : Value → Shared → Prop} {s : Shared}
/-- room for two calls, one in another -/
def RoomN (A : Around) : Prop := A.units + 2 < cLine
theorem hash_nest {x : List (List κ)} {a : Addr} {Q : Int → Shared → Prop} (hu : RoomN A) (hk : IsNest knd s.heap x a) (h : Q (nestHash knd x) { s with toks := s.toks + nestDraws x }) : wpAny (model prog w) A (pyHash (.ref a)) Q E s := by
  have hT := hk.typeIs
  obtain ⟨o, its, n, ho, _, hd, hi⟩ := hk
  have hu0 : A.units < cLine := by unfold RoomN at hu; omega
  unfold pyHash
  first | unfold pyHashByItsType | skip
  first | refine wpAny_bind (wpAny_cRoomFor_or (.inr hu0) ?_) | skip
  refine wpAny_bind (wpAny_specialOf hT F.slot_tuple_hash.lookup ?_)
  show wpAny _ _ (if (some (Value.builtin "tuple.__hash__") == some Value.none) = true then _ else _) Q E s
  rw [if_neg (by rw [beq_builtin_none]; exact Bool.false_ne_true)]
  refine wpAny_bind (wpAny_specialOf hT F.slot_tuple_hash.lookup ?_)
  show wpAny _ _ (callSpecialIfBoundUnlessNone? (.ref a) "__hash__" _ >>= _) Q E s
  refine wpAny_bind (wpAny_callSpecialIfBoundUnlessNone?_slot hT F.slot_tuple_hash (wpAny_call_entry F.slot_tuple_hash hT F.entry_tuple_hash ?_ (F.args_tuple_hash_1 _)))
  show wpAny _ _ (Builtin.Tuple.tupleItemsOf (.ref a) >>= _) _ _ s
  refine wpAny_bind (wpAny_tupleItemsOf ho hd ?_)
  refine wpAny_bind ?_
  rw [← Array.forIn_toList]
  refine wpAny_forIn_list _ (fun rest (b : Array Int) t => ∃ done left, x = done ++ left ∧ NestAre knd s.heap left rest ∧ b.toList = done.map (tupleKeyHash knd) ∧ t = { s with toks := s.toks + (done.map fun k => k.length + 1).sum }) _ ?_ ?_ _ _ ⟨[], x, rfl, hi, rfl, rfl⟩
  · rintro v rest b t ⟨done, left, rfl, hl, hb, rfl⟩
    cases hl with
    | @cons k c ks' _ h1 hl' =>
      have hu1 : A.in1.units < cLine := by
        unfold RoomN at hu
        show A.units + 1 < cLine
        omega
      refine wpAny_bind (wpAny_pyHash_tuple hu1 h1 ?_)
      first
        | exact wpAny_pure ⟨done ++ [k], ks', by simp, hl', by simp [hb], by simp [Nat.add_assoc]⟩
        | exact wpAny_bind (wpAny_pure (wpAny_pure ⟨done ++ [k], ks', by simp, hl', by simp [hb], by simp [Nat.add_assoc]⟩))
  · rintro b t ⟨done, left, rfl, hl, hb, rfl⟩
    cases hl
    rw [List.append_nil] at h
    show wpAny _ _ (retInt (Builtin.Tuple.tupleHashOf b.toList)) _ _ _
    rw [hb]
    refine wpAny_ret_mkInt ?_
    generalize hz : Builtin.Tuple.tupleHashOf (done.map (tupleKeyHash knd)) = z
    unfold nestHash reduceHash at h
    rw [hz] at h
    show wpAny _ _ (if (decide (-(2 : Int) ^ 63 ≤ z) && decide (z < 2 ^ 63)) = true then _ else _) Q E _
    by_cases hr : (decide (-(2 : Int) ^ 63 ≤ z) && decide (z < 2 ^ 63)) = true
    · rw [if_pos hr] at h ⊢
      exact wpAny_pure (by simpa [nestDraws, Nat.add_assoc] using h)
    · rw [if_neg hr] at h ⊢
      exact wpAny_bind (wpAny_rule (wpAny_pure (by simpa [nestDraws, Nat.add_assoc] using h)))
theorem eq_nest_tree {x y : List (List κ)} {a b : Addr} {P : Fin → Shared → Prop} (hu : A.units + 1 < cLine) (hx : IsNest knd s.heap x a) (hy : IsNest knd s.heap y b) (h : P (.done (.ret (.bool (decide (x = y))))) s) :
    wpAny (model prog w) A (Builtin.«tuple.__eq__» ⟨[.ref a, .ref b], []⟩) P E s := by
  have hTb := hy.typeIs
  obtain ⟨oa, xs, na, hoa, _, hda, hia⟩ := hx
  obtain ⟨ob, ys, nb, hob, _, hdb, hib⟩ := hy
  have hu0 : A.units < cLine := by omega
  show wpAny _ _ (isInstance (.ref b) (.type "tuple") >>= _) _ _ s
  refine wpAny_bind (wpAny_isInstance hTb isSubtype_tuple_tuple ?_)
  simp only [Bool.not_true, Bool.false_eq_true, if_false]
  refine wpAny_bind (wpAny_tupleItemsOf hoa hda (wpAny_bind (wpAny_tupleItemsOf hob hdb (wpAny_bind ?_))))
  refine wpAny_forIn_list _ (fun rest r t => r.1 = none ∧ t = s ∧ ∃ x' y' xs' ys', rest = List.zip xs' ys' ∧ NestAre knd s.heap x' xs' ∧ NestAre knd s.heap y' ys' ∧ decide (x' = y') = decide (x = y) ∧ (xs'.length == ys'.length) = (xs.size == ys.size)) _ ?_ ?_ _ _ ⟨rfl, rfl, x, y, xs.toList, ys.toList, rfl, hia, hib, rfl, by simp⟩
  · rintro ⟨u, v⟩ rest r t ⟨hr, rfl, x', y', xs', ys', hz, hx', hy', hdec, hlen⟩
    cases hx' with
    | nil => simp at hz
    | @cons k1 c1 x'' xs'' h1 hx'' =>
      cases hy' with
      | nil => simp at hz
      | @cons k2 c2 y'' ys'' h2 hy'' =>
        simp only [List.zip_cons_cons, List.cons.injEq, Prod.mk.injEq] at hz
        obtain ⟨⟨rfl, rfl⟩, rfl⟩ := hz
        refine wpAny_bind (wpAny_eqBool_tuple hu0 h1 h2 ?_)
        by_cases hk : k1 = k2
        · subst hk
          rw [decide_eq_true rfl]
          simp only [Bool.not_true, Bool.false_eq_true, if_false]
          refine wpAny_pure ⟨rfl, rfl, x'', y'', xs'', ys'', rfl, hx'', hy'', ?_, by simpa using hlen⟩
          rw [← hdec]
          by_cases hxy : x'' = y'' <;> simp [hxy]
        · rw [decide_eq_false hk]
          simp only [Bool.not_false, if_true]
          have hf : decide (x = y) = false := by rw [← hdec]; simp [hk]
          rw [hf] at h
          exact wpAny_bind (wpAny_pure (wpAny_pure (wpAny_pure h)))
  · rintro ⟨r1, r2⟩ t ⟨hr, rfl, x', y', xs', ys', hz, hx', hy', hdec, hlen⟩
    simp only at hr
    subst hr
    refine wpAny_pure ?_
    have hfin : (xs.size == ys.size) = decide (x = y) := by
      rw [← hdec, ← hlen]
      cases hx' with
      | nil => cases hy' <;> simp
      | cons _ _ =>
        cases hy' with
        | nil => simp
        | cons _ _ => simp at hz
    show P (.done (.ret (.bool (xs.size == ys.size)))) _
    rw [hfin]
    exact h
theorem eq_nest {x y : List (List κ)} {a b : Addr} {Q : Bool → Shared → Prop} (hu : RoomN A) (hx : IsNest knd s.heap x a) (hy : IsNest knd s.heap y b) (h : Q (decide (x = y)) s) : wpAny (model prog w) A (eqBool (.ref a) (.ref b)) Q E s := by
  have hu0 : A.units < cLine := by unfold RoomN at hu; omega
  unfold eqBool
  try with_reducible refine wpAny_holding ?_
  show wpAny _ _ (if (Value.ref a == Value.ref b) = true then _ else _) Q E s
  by_cases hab : (Value.ref a == Value.ref b) = true
  · rw [if_pos hab]
    have e : a = b := by have := eq_of_beq hab; injection this
    subst e
    obtain rfl := hx.inj hy
    exact wpAny_bind (wpAny_rule (wpAny_pure (by simpa using h)))
  · rw [if_neg hab]
    refine wpAny_bind (wpAny_richCompare_same_room (op := .Eq) hx.typeIs hy.typeIs F.slot_tuple_eq (wpAny_call_entry F.slot_tuple_eq hx.typeIs F.entry_tuple_eq (eq_nest_tree ?_ hx hy ⟨_, rfl, (fun e => nomatch e), wpAny_truthy_bool h⟩) (F.args_tuple_eq_2 _ _)) hu0)
    show A.units + 1 + 1 < cLine
    unfold RoomN at hu
    omega
theorem quiet_flat {ks : List κ} {a : Addr} {Q : Bool → Shared → Prop} (n : Nat) (hk : IsTupleKey knd s.heap ks a) (h : Q true s) : wpAny (model prog w) A (eqIsQuiet (n + 1) (.ref a)) Q E s := by
  have hT := hk.typeIs
  obtain ⟨o, its, m, ho, _, hd, hi⟩ := hk
  unfold eqIsQuiet
  refine wpAny_bind (wpAny_specialOf hT F.slot_tuple_eq.lookup ?_)
  show wpAny _ _ (isInstance (.ref a) (.type "tuple") >>= _) _ _ s
  refine wpAny_bind (wpAny_isInstance hT isSubtype_tuple_tuple ?_)
  simp only [Bool.not_true, Bool.false_eq_true, if_false]
  refine wpAny_bind (wpAny_seqItems ho hd (wpAny_bind ?_))
  show wpAny _ _ (forIn its _ _) _ _ s
  rw [← Array.forIn_toList]
  refine wpAny_forIn_list _ (fun rest r t => r.1 = none ∧ t = s ∧ ∀ v ∈ rest, carriedByValue v = true) _ ?_ ?_ _ _ ⟨rfl, rfl, hi.byValue⟩
  · rintro v rest r t ⟨hr, rfl, hall⟩
    rw [eqIsQuiet_byValue _ (hall v List.mem_cons_self)]
    refine wpAny_bind (wpAny_pure ?_)
    simp only [Bool.not_true, Bool.false_eq_true, if_false]
    exact wpAny_pure ⟨rfl, rfl, fun u hu' => hall u (List.mem_cons_of_mem _ hu')⟩
  · rintro ⟨r1, r2⟩ t ⟨hr, rfl, _⟩
    simp only at hr
    subst hr
    exact wpAny_pure h
theorem NestAre.flat {h : Heap} {x : List (List κ)} {vs : List Value} (p : NestAre knd h x vs) : ∀ v ∈ vs, ∃ k b, v = .ref b ∧ IsTupleKey knd h k b := by
  induction p with
  | nil => exact fun v hv => by cases hv
  | cons h1 _ ih => exact fun v hv => (List.mem_cons.mp hv).elim (fun e => ⟨_, _, e, h1⟩) (ih v)
theorem quiet_nest {x : List (List κ)} {a : Addr} {Q : Bool → Shared → Prop} (hk : IsNest knd s.heap x a) (h : Q true s) : wpAny (model prog w) A (eqIsQuiet 8 (.ref a)) Q E s := by
  have hT := hk.typeIs
  obtain ⟨o, its, m, ho, _, hd, hi⟩ := hk
  unfold eqIsQuiet
  refine wpAny_bind (wpAny_specialOf hT F.slot_tuple_eq.lookup ?_)
  show wpAny _ _ (isInstance (.ref a) (.type "tuple") >>= _) _ _ s
  refine wpAny_bind (wpAny_isInstance hT isSubtype_tuple_tuple ?_)
  simp only [Bool.not_true, Bool.false_eq_true, if_false]
  refine wpAny_bind (wpAny_seqItems ho hd (wpAny_bind ?_))
  show wpAny _ _ (forIn its _ _) _ _ s
  rw [← Array.forIn_toList]
  refine wpAny_forIn_list _ (fun rest r t => r.1 = none ∧ t = s ∧ ∀ v ∈ rest, ∃ k b, v = .ref b ∧ IsTupleKey knd s.heap k b) _ ?_ ?_ _ _ ⟨rfl, rfl, hi.flat⟩
  · rintro v rest r t ⟨hr, rfl, hall⟩
    obtain ⟨k, b, rfl, hk⟩ := hall v List.mem_cons_self
    refine wpAny_bind (quiet_flat _ hk ?_)
    simp only [Bool.not_true, Bool.false_eq_true, if_false]
    exact wpAny_pure ⟨rfl, rfl, fun u hu' => hall u (List.mem_cons_of_mem _ hu')⟩
  · rintro ⟨r1, r2⟩ t ⟨hr, rfl, _⟩
    simp only at hr
    subst hr
    exact wpAny_pure h
end
def nestKind {prog : Program} {w : World} {κ : Type} [DecidableEq κ] (knd : KeyKind prog w κ) : HeapKind prog w (List (List κ)) where
  is := IsNest knd
  hash := nestHash knd
  draws := nestDraws
  room := RoomN
  inj := fun p q => p.inj q
  keeps := fun p ho hd hs => p.keeps ho hd hs
  pyHash := fun hu hk h => hash_nest hu hk h
  eqBool := fun hu hx hy h => eq_nest hu hx hy h
  quiet := fun hk h => quiet_nest hk h
end FN
set_option Elab.async false
set_option linter.all false
set_option maxRecDepth 100000
set_option maxHeartbeats 4000000
/-! Rules for dicts whose keys are tuples of tuples. -/
namespace FN
open PySem PySem.Spec PyProof.Rows L2
abbrev NK := List (List Key)
abbrev NXs := List (NK × Addr × V)
def atN (xs : NXs) (k : NK) : Option V := (xs.find? fun x => decide (x.1 = k)).map (·.2.2)
def putN (xs : NXs) (k : NK) (b : Addr) (v : V) : NXs := if (xs.any fun x => decide (x.1 = k)) = true then xs.map (fun x => if x.1 = k then (x.1, x.2.1, v) else x) else xs ++ [(k, b, v)]
abbrev PN : NXs → List (NK × Addr × Value) → Prop := Paired fun p q => p.1 = q.1 ∧ p.2.1 = q.2.1 ∧ RelV p.2.2 q.2.2
theorem PN.val {xs : NXs} {ys : List (NK × Addr × Value)} (r : PN xs ys) (k : NK) : RelO (atN xs k) ((atKey ys k).map (·.2)) := by
  induction r with
  | nil => exact True.intro
  | @cons p q ps qs h t ih =>
    obtain ⟨h1, _, h2⟩ := h
    by_cases e : p.1 = k
    · have a1 : atN (p :: ps) k = some p.2.2 := by simp [atN, List.find?_cons, e]
      have a2 : atKey (q :: qs) k = some q.2 := by simp [atKey, List.find?_cons, h1.symm.trans e]
      rw [a1, a2]
      exact h2
    · have e' : ¬ q.1 = k := fun z => e (h1.trans z)
      have a1 : atN (p :: ps) k = atN ps k := by simp [atN, List.find?_cons, e]
      have a2 : atKey (q :: qs) k = atKey qs k := by simp [atKey, List.find?_cons, e']
      rw [a1, a2]
      exact ih
theorem atN_any (k : NK) : ∀ xs : NXs, (xs.any fun x => decide (x.1 = k)) = (atN xs k).isSome
  | [] => rfl
  | p :: r => by
    by_cases e : p.1 = k
    · simp [atN, List.find?_cons, e]
    · have := atN_any k r
      simp [atN, List.find?_cons, e] at this ⊢
      exact this
theorem PN.put {xs : NXs} {ys : List (NK × Addr × Value)} (r : PN xs ys) (k : NK) {b : Addr} {y : V} {u : Value} (ry : RelV y u) : PN (putN xs k b y) (storedH ys k b u) := by
  have e : (xs.any fun x => decide (x.1 = k)) = (atKey ys k).isSome := by rw [atN_any, (r.val k).isSome_eq, Option.isSome_map]
  unfold putN storedH
  rw [e]
  by_cases q : (atKey ys k).isSome = true
  · rw [if_pos q, if_pos q]
    clear e q
    induction r with
    | nil => exact .nil
    | @cons p q ps qs h t ih =>
      refine .cons ?_ ih
      obtain ⟨h1, h2, h3⟩ := h
      show (if p.1 = k then (p.1, p.2.1, y) else p).1 = (if q.1 = k then (q.1, q.2.1, u) else q).1 ∧ (if p.1 = k then (p.1, p.2.1, y) else p).2.1 = (if q.1 = k then (q.1, q.2.1, u) else q).2.1 ∧ RelV (if p.1 = k then (p.1, p.2.1, y) else p).2.2 (if q.1 = k then (q.1, q.2.1, u) else q).2.2
      by_cases e : p.1 = k
      · rw [if_pos e, if_pos (h1.symm.trans e)]; exact ⟨h1, h2, ry⟩
      · rw [if_neg e, if_neg (fun z => e (h1.trans z))]; exact ⟨h1, h2, h3⟩
  · rw [if_neg q, if_neg q]
    exact Paired.snoc r ⟨rfl, rfl, ry⟩
def NRaw (P : Program) (w : World) (d : Addr) (xs : NXs) (h : Heap) : Prop := xs.length ≤ sizeLine ∧ (d == sysModules) = false ∧ ∃ ys, PN xs ys ∧ ∃ o es ep, h.get? d = some o ∧ o.ExactDict ∧ o.data = .dict es ep ∧ es.toList = ys.map (entryOfKey (nestKind (mixKind P w))) ∧ (ys.map (·.1)).Nodup
def NHO (P : Program) (w : World) (d : Addr) (xs : NXs) : HO := .ext (NRaw P w d xs)
/-- a key that stands in the heap -/
def NKeyAt (H : Hp) (k : NK) (b : Addr) : Prop := ∃ bs : List Addr, H b = some (.tup (bs.map V.ref)) ∧ bs.length = k.length ∧ ∀ (i : Nat) (c : Addr) (ks : List Key), bs[i]? = some c → k[i]? = some ks → H c = some (.tup (ks.map kV))
theorem NKeyAt.same {H H' : Hp} {k : NK} {b : Addr} (s : ∀ c ys, H c = some (.tup ys) → H' c = some (.tup ys)) (h : NKeyAt H k b) : NKeyAt H' k b := by
  obtain ⟨bs, h1, h2, h3⟩ := h
  exact ⟨bs, s _ _ h1, h2, fun i c ks e1 e2 => s _ _ (h3 i c ks e1 e2)⟩
/-- at d a dict with these entries, whose keys stand in the heap -/
def ND (P : Program) (w : World) (H : Hp) (d : Addr) (xs : NXs) : Prop := H d = some (NHO P w d xs) ∧ ∀ x ∈ xs, NKeyAt H x.1 x.2.1
theorem ND.keeps {P : Program} {w : World} {H H' : Hp} {d : Addr} {xs : NXs} (n : ND P w H d xs) (s : ∀ c o, H c = some o → H' c = some o) : ND P w H' d xs := ⟨s _ _ n.1, fun x hx => (n.2 x hx).same fun c ys e => s _ _ e⟩
section
variable {P : Program} {w : World} {H : Hp} {h : Heap} {d b : Addr} {xs : NXs} {k : NK}
theorem nest_are : ∀ {bs : List Addr} {k : NK}, HOk P w H h → bs.length = k.length → (∀ (i : Nat) (c : Addr) (ks : List Key), bs[i]? = some c → k[i]? = some ks → H c = some (.tup (ks.map kV))) → ∀ {us : List Value}, Vals (bs.map V.ref) us → NestAre (mixKind P w) h k us
  | [], [], _, _, _, us, r => by cases r; exact .nil
  | c :: bs, ks :: k, ok, hl, hk, us, r => by
    cases r with
    | @cons _ u _ _ r1 r2 =>
      obtain rfl : u = Value.ref c := r1
      exact .cons (key_of ok (hk 0 c ks rfl rfl)) (nest_are ok (by simpa using hl) (fun i c' ks' e1 e2 => hk (i + 1) c' ks' (by simpa using e1) (by simpa using e2)) r2)
theorem nkey_of (ok : HOk P w H h) (e : NKeyAt H k b) : (nestKind (mixKind P w)).is h k b := by
  obtain ⟨bs, h1, h2, h3⟩ := e
  obtain ⟨_, its, r, o, e1, e2, n, e3⟩ := (show ObjOk P w H h b (.tup (bs.map V.ref)) from ok b _ h1)
  exact ⟨o, its.toArray, n, e1, e2, e3, by simpa using nest_are ok h2 h3 r⟩
theorem nd_of (ok : HOk P w H h) (n : ND P w H d xs) : xs.length ≤ sizeLine ∧ (d == sysModules) = false ∧ ∃ ys, PN xs ys ∧ h.DictOfH (nestKind (mixKind P w)) d ys := by
  obtain ⟨⟨h1, h2, ys, r, o, es, ep, e1, e2, e3, e4, e5⟩, _, _⟩ := (show ObjOk P w H h d (NHO P w d xs) from ok d _ n.1)
  refine ⟨h1, h2, ys, r, o, es, ep, e1, e2, e3, e4, ?_, e5⟩
  have all : ∀ {l : NXs} {m : List (NK × Addr × Value)}, PN l m → (∀ x ∈ l, NKeyAt H x.1 x.2.1) → ∀ y ∈ m, (nestKind (mixKind P w)).is h y.1 y.2.1 := by
    intro l m q
    induction q with
    | nil => exact fun _ y hy => nomatch hy
    | @cons p q ps qs hq t ih =>
      intro hk y hy
      rcases List.mem_cons.mp hy with z | z
      · subst z
        rw [← hq.1, ← hq.2.1]
        exact nkey_of ok (hk p List.mem_cons_self)
      · exact ih (fun x hx => hk x (List.mem_cons_of_mem _ hx)) y z
  exact all r n.2
end
theorem nho_ok {P : Program} {w : World} {H : Hp} {h : Heap} {d : Addr} {xs : NXs} {ys : List (NK × Addr × Value)} (z : xs.length ≤ sizeLine) (hd : (d == sysModules) = false) (r : PN xs ys) (dd : h.DictOfH (nestKind (mixKind P w)) d ys) : ObjOk P w H h d (NHO P w d xs) := by
  obtain ⟨o, es, ep, e1, e2, e3, e4, _, e5⟩ := dd
  exact ⟨⟨z, hd, ys, r, o, es, ep, e1, e2, e3, e4, e5⟩, ⟨o, e1⟩, fun _ _ ⟨z1, z2, ys', r', o', es', ep', f1, f2, f3, f4, f5⟩ kk => ⟨z1, z2, ys', r', o', es', ep', kk _ f1, f2, f3, f4, f5⟩⟩
section
variable {X : Cx} {pins : List (Addr × Obj)} {σ : L2.St} {H : Hp} {s : Shared} {d b : Addr} {xs : NXs} {k : NK} {v : V} {r : Value} {A : Around} {E : Value → Shared → Prop}
def RoomD (A : Around) : Prop := A.units + 3 < cLine
theorem roomD {A : Around} (h : RoomD A) : (nestKind (mixKind X.prog X.w)).room A.in1 := by
  show A.units + 1 + 2 < cLine
  unfold RoomD at h
  omega
theorem n_getItem {Q : Value → Shared → Prop} (hu : RoomD A) (I : Inv X pins σ H s) (n : ND X.prog X.w H d xs) (kb : NKeyAt H k b) (l : atN xs k = some v) (h : ∀ w' s', Inv X pins σ H s' → RelV v w' → Q w' s') : wpAny (model X.prog X.w) A (getItem (.ref d) (.ref b)) Q E s := by
  obtain ⟨z, hd, ys, rel, dd⟩ := nd_of I.hok n
  obtain ⟨w', hw, rw'⟩ := RelO.some_of (v := v) (o := (atKey ys k).map (·.2)) (by rw [← l]; exact rel.val k)
  obtain ⟨p, hp, hp2⟩ := Option.map_eq_some_iff.mp hw
  refine wpAny_getItem_heap (roomD (X := X) hu) (nkey_of I.hok kb) dd hp ?_
  rw [hp2]
  exact h w' _ (I.tok _) rw'
theorem n_in {Q : Value → Shared → Prop} (hu : RoomD A) (I : Inv X pins σ H s) (n : ND X.prog X.w H d xs) (kb : NKeyAt H k b) (h : ∀ s', Inv X pins σ H s' → Q (.bool (atN xs k).isSome) s') : wpAny (model X.prog X.w) A (compareOp .In (.ref b) (.ref d)) Q E s := by
  obtain ⟨z, hd, ys, rel, dd⟩ := nd_of I.hok n
  refine wpAny_in_heap (roomD (X := X) hu) (nkey_of I.hok kb) hd dd ?_
  have q := (rel.val k).isSome_eq
  rw [Option.isSome_map] at q
  rw [← q]
  exact h _ (I.tok _)
theorem n_notIn {Q : Value → Shared → Prop} (hu : RoomD A) (I : Inv X pins σ H s) (n : ND X.prog X.w H d xs) (kb : NKeyAt H k b) (h : ∀ s', Inv X pins σ H s' → Q (.bool (!(atN xs k).isSome)) s') : wpAny (model X.prog X.w) A (compareOp .NotIn (.ref b) (.ref d)) Q E s := by
  obtain ⟨z, hd, ys, rel, dd⟩ := nd_of I.hok n
  refine wpAny_notIn_heap (roomD (X := X) hu) (nkey_of I.hok kb) hd dd ?_
  have q := (rel.val k).isSome_eq
  rw [Option.isSome_map] at q
  rw [← q]
  exact h _ (I.tok _)
theorem length_putN (xs : NXs) (k : NK) (b : Addr) (v : V) : (putN xs k b v).length ≤ xs.length + 1 := by
  unfold putN
  split
  · rw [List.length_map]; omega
  · rw [List.length_append, List.length_singleton]; exact Nat.le_refl _
theorem n_setItem {Q : Unit → Shared → Prop} (hu : RoomD A) (I : Inv X pins σ H s) (n : ND X.prog X.w H d xs) (kb : NKeyAt H k b) (hl : xs.length < sizeLine) (rv : RelV v r) (h : ∀ s', Inv X pins σ (upd H d (NHO X.prog X.w d (putN xs k b v))) s' → Q () s') : wpAny (model X.prog X.w) A (setItem (.ref d) (.ref b) r) Q E s := by
  obtain ⟨z, hd, ys, rel, dd⟩ := nd_of I.hok n
  have hz : ys.length ≤ sizeLine := by rw [← Paired.length rel]; exact z
  have hl2 : (putN xs k b v).length ≤ sizeLine := by have := length_putN xs k b v; omega
  refine wpAny_setItem_heap (hsz := hz) (roomD (X := X) hu) (nkey_of I.hok kb) dd fun h' dd' hs => h _ ?_
  have he : ∃ q, h'.get? d = some q := let ⟨q, _, _, hq, _⟩ := dd'; ⟨q, hq⟩
  exact d_write I (by rw [n.1]; exact True.intro) hs he (nho_ok hl2 hd (rel.put k rv) dd')
/-- the dict behind d[k] = v -/
theorem ND.put (n : ND P w H d xs) (kb : NKeyAt H k b) (v : V) : ND P w (upd H d (NHO P w d (putN xs k b v))) d (putN xs k b v) := by
  have ne : ∀ c ys, H c = some (.tup ys) → upd H d (NHO P w d (putN xs k b v)) c = some (.tup ys) := fun c ys e => by
    rw [upd_ne (ne_of e n.1 (fun z => nomatch z))]
    exact e
  refine ⟨upd_same, fun x hx => ?_⟩
  unfold putN at hx
  split at hx
  · obtain ⟨y, hy, e⟩ := List.mem_map.mp hx
    have hk := n.2 y hy
    by_cases z : y.1 = k
    · rw [if_pos z] at e
      subst e
      exact hk.same ne
    · rw [if_neg z] at e
      subst e
      exact hk.same ne
  · rcases List.mem_append.mp hx with z | z
    · exact (n.2 x z).same ne
    · rw [List.mem_singleton.mp z]
      exact kb.same ne
end
/-! ### rules -/
def tNGet (P : Program) (w : World) (td ty : TE) : TE := fun σ H Q => td σ H fun x H1 => ty σ H1 fun y H2 => ∃ a b xs k v, x = .ref a ∧ y = .ref b ∧ ND P w H2 a xs ∧ NKeyAt H2 k b ∧ atN xs k = some v ∧ Q v H2
def tNNotIn (P : Program) (w : World) (ty td : TE) : TE := fun σ H Q => ty σ H fun y H1 => td σ H1 fun x H2 => ∃ a b xs k, x = .ref a ∧ y = .ref b ∧ ND P w H2 a xs ∧ NKeyAt H2 k b ∧ Q (.bl (!(atN xs k).isSome)) H2
def sNPut (P : Program) (w : World) (td ty tv : TE) : TS := fun D σ H => tv σ H fun v H1 => td σ H1 fun x H2 => ty σ H2 fun y H3 => ∃ a b xs k, x = .ref a ∧ y = .ref b ∧ ND P w H3 a xs ∧ NKeyAt H3 k b ∧ xs.length < sizeLine ∧ D.nx σ (upd H3 a (NHO P w a (putN xs k b v)))
def tNNew (P : Program) (w : World) : TE := fun _ H Q => ∀ p, H p = none → Q (.ref p) (upd H p (NHO P w p []))
section
variable {X : Cx} {o i e value : Expr} {pos pos' tpos : Pos} {td ty tv : TE}
theorem nd_type {pins : List (Addr × Obj)} {σ : L2.St} {H : Hp} {s : Shared} {d : Addr} {xs : NXs} (I : Inv X pins σ H s) (n : ND X.prog X.w H d xs) : s.TypeIs (.ref d) "dict" := let ⟨_, _, _, _, dd⟩ := nd_of I.hok n; dd.typeIs
theorem pe_nget (hu : RoomD X.A) (ho : PE X o td) (hi : PE X i ty) (hs : NoSl i) : PE X (.Subscript o i pos) (tNGet X.prog X.w td ty) := by
  refine ⟨fun pins s σ H Q I h => ?_⟩
  refine subD_of PySem.F.slot_dict_getitem.lookup hs (thn (ho.run pins s σ H _ I h) fun u s1 ⟨x, H1, I1, rx, q1⟩ => thn (hi.run pins s1 σ H1 _ I1 q1) fun iv s2 ⟨y, H2, I2, ry, a, b, xs, k, v, ex, ey, n, kb, l, q2⟩ => ?_)
  subst ex ey
  obtain rfl : u = Value.ref a := rx
  obtain rfl : iv = Value.ref b := ry
  exact ⟨nd_type I2 n, n_getItem hu I2 n kb l fun w' s3 I3 rw' => ⟨v, H2, I3, rw', q2⟩⟩
theorem pc_nnotin (hu : RoomD X.A) (hi : PE X i ty) (ho : PE X o td) : PC X .NotIn i o (tNNotIn X.prog X.w ty td) := by
  refine ⟨fun pins s σ H Q I h => ?_⟩
  refine thn (hi.run pins s σ H _ I h) fun iv s1 ⟨y, H1, I1, ry, q1⟩ => thn (ho.run pins s1 σ H1 _ I1 q1) fun u s2 ⟨x, H2, I2, rx, a, b, xs, k, ex, ey, n, kb, q2⟩ => ?_
  subst ex ey
  obtain rfl : u = Value.ref a := rx
  obtain rfl : iv = Value.ref b := ry
  exact n_notIn hu I2 n kb fun s3 I3 => ⟨.bl (!(atN xs k).isSome), H2, I3, rfl, q2⟩
theorem ps_nput (hu : RoomD X.A) (ho : PE X o td) (hi : PE X i ty) (hv : PE X value tv) (hs : swapsWith value (some (.Subscript o i pos')) pos.line X.env = pure false) : PS X (.Assign [.Subscript o i pos'] value pos) (sNPut X.prog X.w td ty tv) := by
  refine ⟨fun pins s σ H D I h => ?_⟩
  refine wpAny_Assign_Subscript (thn (hv.run pins s σ H _ I h) fun r s1 ⟨v, H1, I1, rv, q1⟩ => thn (ho.run pins s1 σ H1 _ I1 q1) fun u s2 ⟨x, H2, I2, rx, q2⟩ => thn (hi.run pins s2 σ H2 _ I2 q2) fun iv s3 ⟨y, H3, I3, ry, a, b, xs, k, ex, ey, n, kb, hl, q3⟩ => ?_) hs
  subst ex ey
  obtain rfl : u = Value.ref a := rx
  obtain rfl : iv = Value.ref b := ry
  exact n_setItem hu I3 n kb hl rv fun s4 I4 => ⟨σ, _, I4, q3⟩
theorem nd_empty {P : Program} {w : World} {H : Hp} (h : Heap) (hb : sysModules < h.objs.size) : ObjOk P w H (h.push { cls := .type "dict", data := .dict #[] }) h.objs.size (NHO P w h.objs.size []) :=
  nho_ok (Nat.zero_le _) (beq_eq_false_iff_ne.mpr (Ne.symm (Nat.ne_of_lt hb))) .nil (Heap.DictOfH.new h)
theorem pe_nnew : PE X (.Dict [] [] pos) (tNNew X.prog X.w) := ⟨fun pins s σ H Q I h =>
  wpAny_Dict_empty ⟨.ref s.heap.objs.size, _, I.laid (a := s.heap.objs.size) (o := NHO X.prog X.w s.heap.objs.size []) (t' := s.toks) (fun _ _ q => Heap.get?_push_of_some _ q) (Nat.le_refl _) (nd_empty s.heap I.big), rfl, h _ (I.hok.fresh (Nat.le_refl _))⟩⟩
theorem call_lenN : CallR X (.builtin "len") (fun xs H Q => ∃ a ns, xs = [V.ref a] ∧ ND X.prog X.w H a ns ∧ Q (.int ns.length) H) := by
  intro pins s σ H vs us Q I r h
  obtain ⟨a, ns, rfl, n, q⟩ := h
  obtain ⟨u, rfl, ru⟩ := vals1 r
  obtain rfl : u = Value.ref a := ru
  obtain ⟨z, hd, ys, rel, dd⟩ := nd_of I.hok n
  have hl := Paired.length rel
  refine call_len_dictH hd dd (by rw [← hl]; rw [sizeLine_eq] at z; omega) ?_
  rw [← hl]
  exact ⟨.int ns.length, H, I.tok _, ⟨_, rfl⟩, q⟩
end
end FN
set_option Elab.async false
set_option linter.all false
set_option maxRecDepth 100000
set_option maxHeartbeats 4000000
/-! split_state. -/
namespace FC
open PySem PySem.Spec PyProof.Rows L2
/-- a control as a key -/
def ctlK (s : Sta) : List (List Key) := s.map fun p => [Sum.inl p.1, Sum.inl p.2]
/-- a state of pairs, at a -/
def StaAt (K : PySem.W.Frag) (H : Hp) (a : Addr) (s : Sta) : Prop := ∃ xs : List V, SqT K H a xs ∧ xs.length = s.length ∧ ∀ (i : Nat) (x : V) (p : Int × Int), xs[i]? = some x → s[i]? = some p → ∃ b, x = .ref b ∧ SqT K H b [.int p.1, .int p.2]
theorem StaAt.same {K : PySem.W.Frag} {H H' : Hp} {a : Addr} {s : Sta} (h : StaAt K H a s) (e : Same H H') : StaAt K H' a s := by
  obtain ⟨xs, h1, h2, h3⟩ := h
  refine ⟨xs, sqt_same e h1, h2, fun i x p hx hp => ?_⟩
  obtain ⟨b, h4, h5⟩ := h3 i x p hx hp
  exact ⟨b, h4, sqt_same e h5⟩
theorem StateAt.sta {K : PySem.W.Frag} {H : Hp} {a : Addr} {ps : List Stp} {row : List Int} (h : StateAt K H a ps row) : StaAt K H a (stOf ps row) := by
  obtain ⟨xs, h1, h2, h3⟩ := h
  refine ⟨xs, h1, by rw [h2, stOf_len], fun i x p hx hp => ?_⟩
  have hi := get_lt hp
  rw [stOf_len] at hi
  have hps : ps[i]? = some ps[i] := List.getElem?_eq_getElem hi
  obtain ⟨b, e, hb⟩ := h3 i x _ hx hps
  have := stOf_get ps row i _ hps
  rw [hp] at this
  have e2 := Option.some.inj this
  rw [← e2] at hb
  exact ⟨b, e, hb⟩
theorem split_snoc : ∀ (ms : List Int) (s : Sta) (m : Int) (p : Int × Int) (i : Int), ms.length = s.length → splitState (ms ++ [m]) (s ++ [p]) i = ((splitState ms s i).1 ++ [(p.1, p.2 % m)], (splitState ms s i).2 ++ (if p.2 / m = 0 then [] else [(i + ms.length, p.2 / m)]))
  | [], [], m, (pl, t), i, _ => by
    show ((pl, t % m) :: (splitState [] [] (i + 1)).1, (if t / m = 0 then [] else [(i, t / m)]) ++ (splitState [] [] (i + 1)).2) = _
    have : i + (([] : List Int).length : Int) = i := by show i + ((0 : Nat) : Int) = i; omega
    rw [this]
    show ([(pl, t % m)], (if t / m = 0 then [] else [(i, t / m)]) ++ []) = ([] ++ [(pl, t % m)], [] ++ _)
    rw [List.append_nil]
    rfl
  | m0 :: ms, (pl0, t0) :: s, m, p, i, h => by
    have h : ms.length = s.length := by simpa using h
    have ih := split_snoc ms s m p (i + 1) h
    show ((pl0, t0 % m0) :: (splitState (ms ++ [m]) (s ++ [p]) (i + 1)).1, (if t0 / m0 = 0 then [] else [(i, t0 / m0)]) ++ (splitState (ms ++ [m]) (s ++ [p]) (i + 1)).2) = ((pl0, t0 % m0) :: (splitState ms s (i + 1)).1 ++ [(p.1, p.2 % m)], ((if t0 / m0 = 0 then [] else [(i, t0 / m0)]) ++ (splitState ms s (i + 1)).2) ++ _)
    rw [ih, List.append_assoc]
    have : i + ((m0 :: ms).length : Int) = i + 1 + (ms.length : Int) := by
      rw [List.length_cons]
      omega
    rw [this]
    rfl
theorem split_keys : ∀ (ms : List Int) (s : Sta) (i : Int), ∀ p ∈ (splitState ms s i).2, i ≤ p.1 ∧ p.1 < i + ms.length
  | [], s, i, p, h => by
    have : (splitState [] s i).2 = [] := by cases s <;> rfl
    rw [this] at h
    cases h
  | m :: ms, [], i, p, h => by cases h
  | m :: ms, (pl, t) :: s, i, p, h => by
    have h : p ∈ (if t / m = 0 then [] else [(i, t / m)]) ++ (splitState ms s (i + 1)).2 := h
    rw [List.length_cons]
    rcases List.mem_append.mp h with z | z
    · split at z
      · cases z
      · rw [List.mem_singleton.mp z]
        show i ≤ i ∧ i < i + ((ms.length + 1 : Nat) : Int)
        omega
    · have := split_keys ms s (i + 1) p z
      omega
theorem split_len : ∀ (ms : List Int) (s : Sta) (i : Int), ms.length = s.length → (splitState ms s i).1.length = s.length
  | [], [], _, _ => rfl
  | m :: ms, (pl, t) :: s, i, h => by
    show (splitState ms s (i + 1)).1.length + 1 = s.length + 1
    rw [split_len ms s (i + 1) (by simpa using h)]
theorem split_nd : ∀ (ms : List Int) (s : Sta) (i : Int), Dst (splitState ms s i).2
  | [], s, i => by
    have : (splitState [] s i).2 = [] := by cases s <;> rfl
    rw [this]
    exact List.nodup_nil
  | m :: ms, [], i => List.nodup_nil
  | m :: ms, (pl, t) :: s, i => by
    show Dst ((if t / m = 0 then [] else [(i, t / m)]) ++ (splitState ms s (i + 1)).2)
    split
    · exact split_nd ms s (i + 1)
    · show (((i, t / m) :: (splitState ms s (i + 1)).2).map (·.1)).Nodup
      rw [List.map_cons, List.nodup_cons]
      refine ⟨fun h => ?_, split_nd ms s (i + 1)⟩
      obtain ⟨p, hp, e⟩ := List.mem_map.mp h
      have := (split_keys ms s (i + 1) p hp).1
      have e : p.1 = i := e
      omega
theorem split_vlen : ∀ (ms : List Int) (s : Sta) (i : Int), (splitState ms s i).2.length ≤ ms.length
  | [], s, i => by
    have : (splitState [] s i).2 = [] := by cases s <;> rfl
    rw [this]
    exact Nat.le_refl _
  | m :: ms, [], i => Nat.zero_le _
  | m :: ms, (pl, t) :: s, i => by
    show ((if t / m = 0 then [] else [(i, t / m)]) ++ (splitState ms s (i + 1)).2).length ≤ ms.length + 1
    rw [List.length_append]
    have := split_vlen ms s (i + 1)
    split
    · show 0 + _ ≤ _
      omega
    · show 1 + _ ≤ _
      omega
theorem vput_new {v : Vec} {k x : Int} (h : k ∉ v.map (·.1)) : vput v k x = v ++ [(k, x)] := by
  unfold vput
  rw [if_neg (fun z => h (any_mem.mp z))]
def spSplit (K : PySem.W.Frag) : Sp := fun vs H Q _ => ∃ (lm sa : Addr) (ms : List Int) (s : Sta), vs = [.ref lm, .ref sa] ∧ SqL K H lm (ms.map V.int) ∧ StaAt K H sa s ∧ ms.length = s.length ∧ ms.length ≤ 100 ∧ (∀ m ∈ ms, 0 < m ∧ m.natAbs < 2 ^ 2000) ∧
  ∀ (t ct va : Addr) H', H va = none → Same H H' → SqT K H' t [.ref ct, .ref va] → FN.NKeyAt H' (ctlK (split ms s).1) ct → H' va = some (.dK (kvs (split ms s).2)) → Dst (split ms s).2 → Q (.ref t) H'
section
variable {P : Program} {w : World} {K : PySem.W.Frag} {mg : Str → Option Value} {base : Heap}
abbrev NSp : List Str := ["moduli", "state", "control", "vector", "modulus", "place", "total", "times", "left"]
theorem scSplit : FnScope NSp ["moduli", "state"] (defScope sSplitState) := ⟨rfl, rfl, rfl, by decide +kernel, rfl, by decide +kernel, by decide +kernel⟩
theorem ok_split {f : Addr} {fd : FuncData} (F : Fun K "split_state" "split_state" sSplitState f fd) (B : Blt mg) (mD : mg "divmod" = none) : FnOk P w K mg base CX0 1 f fd ["moduli", "state"] (spSplit K) := by
  refine F.ok scSplit (fun vs H Q E h => ?_) (fun cdv A outer s H vs Q E hr h => ?_)
  · obtain ⟨lm, sa, ms, st, rfl, _⟩ := h
    rfl
  · obtain ⟨lm, sa, ms, st, rfl, hm, hs, hl, hln, hms, q⟩ := h
    have nd := scSplit.nd
    refine ⟨_, pss_cons (ps_set (i := 2) nd rfl (Or.inl rfl) (pe_lst pa_nil))
      (pss_cons (ps_set (i := 3) nd rfl (Or.inl rfl) (pe_disp (pps_cons pe_int pe_int pps_nil) rfl rfl (by simp) (by decide)))
      (pss_cons (ps_for PassesOwn.never rfl (pi_zipM (by rfl) B.zip (pa_cons (pv 0) (pa_cons (pv 1) pa_nil))) (pg_tup rfl (pgs_cons (pg_name (i := 4) nd rfl (Or.inl rfl)) (pgs_cons (pg_tup rfl (pgs_cons (pg_name (i := 5) nd rfl (Or.inl rfl)) (pgs_cons (pg_name (i := 6) nd rfl (Or.inl rfl)) pgs_nil))) pgs_nil)))
        (pss_cons (ps_asg (pe_callB call_divmodW (by rfl) mD (by decide +kernel) (pa_cons (pv 6) (pa_cons (pv 4) pa_nil))) (pg_tup rfl (pgs_cons (pg_name (i := 7) nd rfl (Or.inl rfl)) (pgs_cons (pg_name (i := 8) nd rfl (Or.inl rfl)) pgs_nil))))
        (pss_cons (ps_expr (pe_bm PySem.F.plainAttrs_list PySem.F.slot_list_append PySem.F.type_list_append mt_append (pv 2) (pa_cons (pe_tup (pa_cons (pv 5) (pa_cons (pv 8) pa_nil))) pa_nil)))
        (pss_one (ps_if (pt_cmp (pc_neI (pv 7) pe_int)) (pss_one (ps_dput (hu_of hr) (pv 3) (pe_callB call_len (by rfl) B.len PySem.boot_len (pa_cons (pv 2) pa_nil)) (pv 7) rfl)) pss_nil)))))
      (pss_one (ps_ret (pe_tup (pa_cons (pe_callTy call_tuple_of (by rfl) B.tuple (by decide +kernel) (pa_cons (pv 2) pa_nil)) (pa_cons (pv 3) pa_nil))))))), ?_⟩
    obtain ⟨xs, x1, x2, x3⟩ := id hs
    refine ⟨(by show 0 ≤ sizeLine; omega), fun lc hlc => ?_⟩
    intro va hva
    refine ⟨upd_same, [(.inl 0, .int 1)], rfl, (by show 1 ≤ 15; omega), ?_⟩
    rw [upd_upd]
    have nvc : va ≠ lc := fun z => by rw [z, upd_same] at hva; cases hva
    have hvaH : H va = none := by rw [upd_ne nvc] at hva; exact hva
    generalize hG0 : upd (upd H lc (.lst [])) va (.dK (mergeK [] [(Sum.inl 0, V.int 1)])) = G0
    have ec0 : G0 lc = some (.lst []) := by rw [← hG0, upd_ne nvc.symm, upd_same]
    have ev0 : G0 va = some (.dK (kvs [(0, 1)])) := by rw [← hG0, upd_same]; rfl
    have s0 : Same H G0 := fun b o h => by
      rw [← hG0, upd_ne (ne_of_none h hvaH), upd_ne (ne_of_none h hlc)]
      exact h
    have sG : ∀ {G : Hp}, (∀ b o, b ≠ lc → b ≠ va → G0 b = some o → G b = some o) → Same H G := fun k b o h => k b o (ne_of_none h hlc) (ne_of_none h hvaH) (s0 b o h)
    refine ⟨_, rfl, _, rfl, lm, sa, ms.map V.int, xs, rfl, sql_same s0 hm, sqt_same s0 x1, for_it (walk_m (K := K) (a := lm) (b := sa) (xs := ms.map V.int) (ys := xs) (by rw [List.length_map, hl, x2]))
      (fun i σ G => (∀ b o, b ≠ lc → b ≠ va → G0 b = some o → G b = some o) ∧ (∃ v4 v5 v6 v7 v8, σ = [some (.ref lm), some (.ref sa), some (.ref lc), some (.ref va), v4, v5, v6, v7, v8]) ∧ ∃ bs : List Addr, G lc = some (.lst (bs.map V.ref)) ∧ bs.length = i ∧
        (∀ (j : Nat) (c : Addr) (p : Int × Int), bs[j]? = some c → (splitState (ms.take i) (st.take i) 1).1[j]? = some p → G c = some (.tup [.int p.1, .int p.2])) ∧ G va = some (.dK (kvs ((0, 1) :: (splitState (ms.take i) (st.take i) 1).2))))
      ⟨fun b o _ _ h => h, ⟨none, none, none, none, none, rfl⟩, [], ec0, rfl, fun j c p h _ => by simp at h, ev0⟩ (fun i σ G _ p => ⟨sql_same (sG p.1) hm, sqt_same (sG p.1) x1⟩) ?_ ?_⟩
    · rintro i z σ G1 G2 hi ⟨k0, ⟨v4, v5, v6, v7, v8, rfl⟩, bs, hc, hbl, hat, hv⟩ ⟨T, x, y, rfl, hT, rfl, e1, e2⟩
      have e1 : (ms.map V.int)[i]? = some x := e1
      rw [List.getElem?_map] at e1
      obtain ⟨m, hmi, rfl⟩ := Option.map_eq_some_iff.mp e1
      have hi2 := get_lt hmi
      obtain ⟨p, hp⟩ : ∃ p, st[i]? = some p := ⟨st[i]'(by omega), List.getElem?_eq_getElem (by omega)⟩
      obtain ⟨b, rfl, hb⟩ := x3 i y p e2 hp
      obtain ⟨m0, mb⟩ := hms m (List.mem_of_getElem? hmi)
      have sT := same_upd (o := .tup [V.int m, .ref b]) (sG k0) hT
      have hT' : upd G1 T (.tup [V.int m, .ref b]) T = some (.tup [V.int m, .ref b]) := upd_same
      have nTc : T ≠ lc := fun z => by rw [z, hc] at hT; cases hT
      have nTv : T ≠ va := fun z => by rw [z, hv] at hT; cases hT
      have npy : Builtin.divisionGoesByPylong p.2 m = false := PyProof.noPylong_of_log2 (log_lt (by decide) (Nat.lt_trans mb (Nat.pow_lt_pow_right (by decide) (by decide))))
      refine ⟨T, [.int m, .ref b], rfl, sqt_new, rfl, _, _, rfl, _, _, rfl, b, _, rfl, sqt_same sT hb, rfl, _, _, rfl, _, _, rfl, rfl, rfl, ?_⟩
      refine ⟨_, rfl, _, rfl, p.2, m, rfl, ⟨m0, npy⟩, fun dm hdm => ⟨dm, _, rfl, sqt_new, rfl, _, _, rfl, _, _, rfl, rfl, ?_⟩⟩
      generalize hG3 : upd (upd G1 T (.tup [V.int m, .ref b])) dm (.tup [.int (p.2 / m), .int (p.2 % m)]) = G3
      have s13 : Same G1 G3 := by rw [← hG3]; exact same_upd (same_upd (Same.refl G1) hT) hdm
      have hc3 := s13 _ _ hc
      have hv3 := s13 _ _ hv
      refine ⟨_, rfl, .inl ⟨rfl, _, SqL.of hc3⟩, _, rfl, _, rfl, (by show 2 ≤ sizeLine; decide), fun tt htt => ?_⟩
      have s34 : Same G3 (upd G3 tt (.tup [V.int p.1, .int (p.2 % m)])) := same_upd (Same.refl G3) htt
      have htt4 : upd G3 tt (.tup [V.int p.1, .int (p.2 % m)]) tt = some (.tup [.int p.1, .int (p.2 % m)]) := upd_same
      generalize upd G3 tt (.tup [V.int p.1, .int (p.2 % m)]) = G4 at s34 htt4 ⊢
      have hc4 := s34 _ _ hc3
      have hv4 := s34 _ _ hv3
      refine ⟨lc, _, _, rfl, rfl, hc4, small1000 (by rw [List.length_map]; omega), ?_⟩
      generalize hG5 : upd G4 lc (.lst (bs.map V.ref ++ [V.ref tt])) = G5
      have hc5 : G5 lc = some (.lst ((bs ++ [tt]).map V.ref)) := by rw [← hG5, upd_same, List.map_append]; rfl
      have hv5 : G5 va = some (.dK (kvs ((0, 1) :: (splitState (ms.take i) (st.take i) 1).2))) := by rw [← hG5, upd_ne nvc]; exact hv4
      have o15 : ∀ c o, c ≠ lc → G1 c = some o → G5 c = some o := fun c o hn h => by
        rw [← hG5, upd_ne hn]
        exact s34 _ _ (s13 _ _ h)
      have htt5 : G5 tt = some (.tup [.int p.1, .int (p.2 % m)]) := by
        rw [← hG5, upd_ne (ne_of htt4 hc4 (fun z => nomatch z))]
        exact htt4
      have hlt : (ms.take i).length = (st.take i).length := by rw [List.length_take, List.length_take]; omega
      have hli : (ms.take i).length = i := by rw [List.length_take]; omega
      have esn := split_snoc (ms.take i) (st.take i) m p 1 hlt
      rw [← take_succ_get hmi, ← take_succ_get hp] at esn
      have hcl := split_len (ms.take i) (st.take i) 1 hlt
      have at5 : ∀ (j : Nat) (c : Addr) (p' : Int × Int), (bs ++ [tt])[j]? = some c → (splitState (ms.take (i + 1)) (st.take (i + 1)) 1).1[j]? = some p' → G5 c = some (.tup [.int p'.1, .int p'.2]) := fun j c p' h1 h2 => by
        rw [esn] at h2
        rcases get_snoc h1 with ⟨l1, h1⟩ | ⟨l1, h3⟩
        · rw [List.getElem?_append_left (by omega)] at h2
          have h4 := hat j c p' h1 h2
          exact o15 c _ (ne_of h4 hc (fun z => nomatch z)) h4
        · subst h3
          rw [List.getElem?_append_right (by omega), l1] at h2
          have : bs.length - (splitState (ms.take i) (st.take i) 1).1.length = 0 := by omega
          rw [this] at h2
          have h2 : (p.1, p.2 % m) = p' := Option.some.inj h2
          rw [← h2]
          exact htt5
      refine ⟨_, rfl, p.2 / m, 0, rfl, rfl, _, rfl, ?_⟩
      show if (!decide (p.2 / m = 0)) = true then _ else _
      by_cases hz : p.2 / m = 0
      · rw [if_neg (by simp [hz])]
        refine ⟨fun c o h1 h2 h => o15 c o h1 (k0 c o h1 h2 h), ⟨_, _, _, _, _, rfl⟩, bs ++ [tt], hc5, by rw [List.length_append, hbl]; rfl, at5, ?_⟩
        rw [hv5, esn, if_pos hz, List.append_nil]
      · rw [if_pos (by simp [hz])]
        have nk : ((bs ++ [tt]).length : Int) ∉ ((0, 1) :: (splitState (ms.take i) (st.take i) 1).2).map (·.1) := fun h => by
          rw [List.length_append, hbl, List.length_singleton, List.map_cons, List.mem_cons] at h
          rcases h with h | h
          · have h : ((i + 1 : Nat) : Int) = 0 := h
            omega
          · obtain ⟨p2, hp2, e⟩ := List.mem_map.mp h
            have := (split_keys _ _ _ p2 hp2).2
            have e : p2.1 = ((i + 1 : Nat) : Int) := e
            rw [hli] at this
            omega
        have hsz : (kvs ((0, 1) :: (splitState (ms.take i) (st.take i) 1).2)).length < sizeLine := by
          have := split_vlen (ms.take i) (st.take i) 1
          rw [List.length_map, List.length_cons, sizeLine_eq]
          omega
        refine ⟨_, rfl, _, rfl, _, rfl, _, _, rfl, .inl ⟨_, SqL.of hc5, rfl⟩, va, _, rfl, DPut.k (k := .inl (((bs ++ [tt]).map V.ref).length : Int)) hv5 hsz, ?_⟩
        rw [List.length_map]
        refine ⟨fun c o h1 h2 h => ?_, ⟨_, _, _, _, _, rfl⟩, bs ++ [tt], ?_, by rw [List.length_append, hbl]; rfl, fun j c p' h1 h2 => ?_, ?_⟩
        · rw [upd_ne h2]
          exact o15 c o h1 (k0 c o h1 h2 h)
        · rw [upd_ne nvc.symm]
          exact hc5
        · have h4 := at5 j c p' h1 h2
          rw [upd_ne (ne_of h4 hv5 (fun z => nomatch z))]
          exact h4
        · rw [upd_same, putK_kvs, vput_new nk, esn, if_neg hz, hli, List.length_append, hbl, List.length_singleton]
          have : (1 : Int) + (i : Int) = ((i + 1 : Nat) : Int) := by omega
          rw [this]
          rfl
    · rintro σ G ⟨k0, ⟨v4, v5, v6, v7, v8, rfl⟩, bs, hc, hbl, hat, hv⟩
      rw [List.length_map] at hbl hat hv
      have t1 : ms.take ms.length = ms := List.take_length
      have t2 : st.take ms.length = st := by rw [hl, List.take_length]
      rw [t1, t2] at hat hv
      have hcl := split_len ms st 1 hl
      refine ⟨_, rfl, lc, _, rfl, .inl ⟨SqL.of hc, fun ct hct => ⟨_, rfl, (by show 2 ≤ sizeLine; decide), fun t ht => ?_⟩⟩⟩
      have s1 := same_upd (o := .tup (bs.map V.ref)) (Same.refl G) hct
      have e1 : upd G ct (.tup (bs.map V.ref)) ct = some (.tup (bs.map V.ref)) := upd_same
      have s2 := same_upd (o := .tup [V.ref ct, .ref va]) s1 ht
      have e2 := (same_upd (o := .tup [V.ref ct, .ref va]) (Same.refl _) ht) _ _ e1
      have hdst : Dst (split ms st).2 := by
        show (((0, 1) :: (splitState ms st 1).2).map (·.1)).Nodup
        rw [List.map_cons, List.nodup_cons]
        refine ⟨fun h => ?_, split_nd ms st 1⟩
        obtain ⟨p, hp, e⟩ := List.mem_map.mp h
        have := (split_keys ms st 1 p hp).1
        have e : p.1 = 0 := e
        omega
      refine q t ct va _ hvaH (Same.trans (sG k0) s2) sqt_new ⟨bs, e2, ?_, fun j c ks h1 h2 => ?_⟩ (s2 _ _ hv) hdst
      · show bs.length = ((splitState ms st 1).1.map _).length
        rw [List.length_map, hcl, hbl, hl]
      · have h2 : ((splitState ms st 1).1.map fun p => [(Sum.inl p.1 : Key), Sum.inl p.2])[j]? = some ks := h2
        rw [List.getElem?_map] at h2
        obtain ⟨p, hp, rfl⟩ := Option.map_eq_some_iff.mp h2
        exact s2 _ _ (hat j c p h1 hp)
end
end FC
set_option Elab.async false
set_option linter.all false
set_option maxRecDepth 100000
set_option maxHeartbeats 4000000
/-! Machines in the heap; a new span. -/
namespace FC
open PySem PySem.Spec PyProof.Rows L2
/-! ### a new span -/
def spSpanI (C : Addr) : Sp := fun vs H Q _ => ∃ (a dx : Addr), vs = [.ref a] ∧ H a = some (.ins C dx []) ∧ ∀ d, H d = none → Q .non (upd (upd H d (.dK [])) a (.ins C dx [("lines", .ref d)]))
section
variable {P : Program} {w : World} {K : PySem.W.Frag} {mg : Str → Option Value} {base : Heap}
theorem scSpanI : FnScope ["self"] ["self"] (defScope (spM 0)) := ⟨rfl, rfl, rfl, by decide +kernel, rfl, by decide +kernel, by decide +kernel⟩
theorem ok_spanI {f C : Addr} {fd : FuncData} (F : Fun K "__init__" "Span.__init__" (spM 0) f fd) (T : SpT K C) : FnOk P w K mg base CX0 1 f fd ["self"] (spSpanI C) := by
  refine F.ok scSpanI (fun vs H Q E h => ?_) (fun cdv A outer s H vs Q E hr h => ?_)
  · obtain ⟨a, dx, rfl, _⟩ := h
    rfl
  · obtain ⟨a, dx, rfl, hi, q⟩ := h
    refine ⟨_, pss_one (ps_fld (pv 0) pe_dnewK rfl), ?_⟩
    refine fun d hd => ⟨_, rfl, a, C, dx, [], rfl, (upd_ne (ne_of_none hi hd)).trans hi, T.cl, T.nl, (by show 0 < 1000; decide), q d hd⟩
end
/-- what Span() brings: two new places and the dict of the instance -/
theorem span_new {H : Hp} {C x dx d : Addr} (hx : H x = none) (hdx : H dx = none) (hne : dx ≠ x) (hd : upd (upd H dx (.own x)) x (.ins C dx []) d = none) {H' : Hp} (e : H' = upd (upd (upd (upd H dx (.own x)) x (.ins C dx [])) d (.dK [])) x (.ins C dx [("lines", .ref d)])) :
    Same H H' ∧ SpanAt H' C x d [] ∧ H d = none ∧ d ≠ x := by
  have ndx : d ≠ x := fun z => by rw [z, upd_same] at hd; cases hd
  have ndd : d ≠ dx := fun z => by rw [z, upd_ne hne, upd_same] at hd; cases hd
  have hdH : H d = none := by rw [upd_ne ndx, upd_ne ndd] at hd; exact hd
  refine ⟨fun b o h => ?_, ⟨⟨dx, by rw [e, upd_same]⟩, ⟨[], by rw [e, upd_ne ndx, upd_same]; rfl, rfl, fun y hy => nomatch hy⟩, List.nodup_nil⟩, hdH, ndx⟩
  rw [e, upd_ne (ne_of_none h hx), upd_ne (ne_of_none h hdH), upd_ne (ne_of_none h hx), upd_ne (ne_of_none h hdx)]
  exact h
/-! ### machines -/
structure MC where
  c : Addr
  md : Addr
  m : Int
  ct : Addr
  sp : Addr
  an : Addr
  mb : Addr
  mv : Addr
  ss : List (Addr × Addr)
  ms : List Addr
  st : List Addr
  es : List Addr
def MC.fs (X : MC) : List (Str × V) := [("chain", .ref X.c), ("moduli", .ref X.md), ("modulus", .int X.m), ("controls", .ref X.ct), ("spans", .ref X.sp), ("anchors", .ref X.an), ("members", .ref X.mb), ("moves", .ref X.mv)]
/-- the places that may change -/
def MC.cells (X : MC) : List Addr := X.ct :: X.sp :: X.an :: X.mb :: X.mv :: (X.ss.map (·.2) ++ X.ms)
/-- a state of the chain behind some row -/
def StAt (K : PySem.W.Frag) (H : Hp) (a : Addr) (ps : List Stp) (s : Sta) : Prop := ∃ row, s = stOf ps row ∧ StateAt K H a ps row
/-- what stands of a move: what is given, the control, the blend -/
def MoveAt (K : PySem.W.Frag) (H : Hp) (a : Addr) (e : List Int × Int × Bld) : Prop := ∃ g b, SqT K H a [.ref g, .int e.2.1, .ref b] ∧ SqT K H g (e.1.map V.int) ∧ BldAt K H b e.2.2
/-- a row of moves -/
def MovesAt (K : PySem.W.Frag) (H : Hp) (a : Addr) (es : List (List Int × Int × Bld)) : Prop := ∃ xs : List V, (∃ o, H a = some (.frz o (.lst xs))) ∧ xs.length = es.length ∧ ∀ (i : Nat) (x : V) (e : List Int × Int × Bld), xs[i]? = some x → es[i]? = some e → ∃ b, x = .ref b ∧ MoveAt K H b e
structure MacAt (P : Program) (w : World) (K : PySem.W.Frag) (SC MCl : Addr) (H : Hp) (a : Addr) (X : MC) (ps : List Stp) (M : Mac) : Prop where
  ins : ∃ dx, H a = some (.ins MCl dx X.fs)
  chain : StpsAt K H X.c ps
  ok : (∀ p ∈ ps, p.ok) ∧ ps.length ≤ 4
  moduli : ∃ o, H X.md = some (.frz o (.lst ((moduliOf ps).1.map V.int)))
  modulus : X.m = (moduliOf ps).2
  controls : ∃ xs : FN.NXs, FN.ND P w H X.ct xs ∧ xs.length = M.controls.length ∧ ∀ (i : Nat) (s : Sta), M.controls[i]? = some s → ∃ b, xs[i]? = some (ctlK s, b, .int (i : Nat))
  spans : H X.sp = some (.lst (X.ss.map fun p => V.ref p.1)) ∧ X.ss.length = M.spans.length ∧ ∀ (i : Nat) (p : Addr × Addr) (S : Spn), X.ss[i]? = some p → M.spans[i]? = some S → SpanAt H SC p.1 p.2 S
  anchors : H X.an = some (.lst (X.st.map V.ref)) ∧ X.st.length = M.anchors.length ∧ ∀ (i : Nat) (b : Addr) (s : Sta), X.st[i]? = some b → M.anchors[i]? = some s → StAt K H b ps s
  members : H X.mb = some (.lst (X.ms.map V.ref)) ∧ X.ms.length = M.members.length ∧ ∀ (i : Nat) (b : Addr) (l : List Int), X.ms[i]? = some b → M.members[i]? = some l → H b = some (.lst (l.map V.int))
  moves : H X.mv = some (.lst (X.es.map V.ref)) ∧ X.es.length = M.moves.length ∧ ∀ (i : Nat) (b : Addr) (l : List (List Int × Int × Bld)), X.es[i]? = some b → M.moves[i]? = some l → MovesAt K H b l
  apart : X.cells.Nodup
  lens : M.spans.length = M.controls.length ∧ M.members.length = M.controls.length
/-- the class's facts -/
structure McT (K : PySem.W.Frag) (C : Addr) : Prop where
  cl : Cls K C
  nc : NoAttr K C "chain"
  nmd : NoAttr K C "moduli"
  nm : NoAttr K C "modulus"
  nct : NoAttr K C "controls"
  nsp : NoAttr K C "spans"
  nan : NoAttr K C "anchors"
  nmb : NoAttr K C "members"
  nmv : NoAttr K C "moves"
abbrev mcM (i : Nat) : Stmt := inClass sMachine i
end FC
set_option Elab.async false
set_option linter.all false
set_option maxRecDepth 100000
set_option maxHeartbeats 4000000
/-! What stands when one place of a machine changes. -/
namespace FC
open PySem PySem.Spec PyProof.Rows L2
/-- the kinds of what may change -/
def Ck : HO → Prop
  | .lst _ => True
  | .dK _ => True
  | .ext _ => True
  | _ => False
/-- H goes to H' with changes at d alone, which may change -/
structure Och (d : Addr) (H H' : Hp) : Prop where
  off : OffD d H H'
  ck : ∃ o, H d = some o ∧ Ck o
section
variable {K : PySem.W.Frag} {d a : Addr} {H H' : Hp}
theorem Och.at_ (s : Och d H H') {o : HO} (h : H a = some o) (n : ¬ Ck o) : H' a = some o := by
  refine s.off a o (fun z => ?_) h
  obtain ⟨u, hu, ck⟩ := s.ck
  rw [z, hu] at h
  exact n (by rw [← Option.some.inj h]; exact ck)
theorem sqt_och {xs : List V} (s : Och d H H') (h : SqT K H a xs) : SqT K H' a xs := by
  rcases h with (h | ⟨o, h⟩) | h
  · exact .inl (.inl (s.at_ h id))
  · exact .inl (.inr ⟨o, s.at_ h id⟩)
  · exact .inr h
theorem vecf_och {v : Vec} (s : Och d H H') (h : VecF H a v) : VecF H' a v := by
  obtain ⟨⟨o, e⟩, dd⟩ := h
  exact ⟨⟨o, s.at_ e id⟩, dd⟩
theorem bld_och {b : Bld} (s : Och d H H') (h : BldAt K H a b) : BldAt K H' a b := by
  obtain ⟨e, h1, h2⟩ := h
  exact ⟨e, sqt_och s h1, vecf_och s h2⟩
theorem stps_och {ps : List Stp} (s : Och d H H') (h : StpsAt K H a ps) : StpsAt K H' a ps := by
  obtain ⟨xs, x1, x2, x3⟩ := h
  refine ⟨xs, sqt_och s x1, x2, fun i x p hx hp => ?_⟩
  obtain ⟨b, h1, h2⟩ := x3 i x p hx hp
  exact ⟨b, h1, sqt_och s h2⟩
theorem st_och {ps : List Stp} {st : Sta} (s : Och d H H') (h : StAt K H a ps st) : StAt K H' a ps st := by
  obtain ⟨row, e, xs, h1, h2, h3⟩ := h
  refine ⟨row, e, xs, sqt_och s h1, h2, fun i x p hx hp => ?_⟩
  obtain ⟨b, e1, e2⟩ := h3 i x p hx hp
  exact ⟨b, e1, sqt_och s e2⟩
theorem moves_och {es : List (List Int × Int × Bld)} (s : Och d H H') (h : MovesAt K H a es) : MovesAt K H' a es := by
  obtain ⟨xs, ⟨o, h1⟩, h2, h3⟩ := h
  refine ⟨xs, ⟨o, s.at_ h1 id⟩, h2, fun i x e hx he => ?_⟩
  obtain ⟨b, e1, g, bl, m1, m2, m3⟩ := h3 i x e hx he
  exact ⟨b, e1, g, bl, sqt_och s m1, sqt_och s m2, bld_och s m3⟩
theorem st_same {ps : List Stp} {st : Sta} (s : Same H H') (h : StAt K H a ps st) : StAt K H' a ps st := by
  obtain ⟨row, e, h⟩ := h
  exact ⟨row, e, h.same s⟩
theorem moves_same {es : List (List Int × Int × Bld)} (s : Same H H') (h : MovesAt K H a es) : MovesAt K H' a es := by
  obtain ⟨xs, ⟨o, h1⟩, h2, h3⟩ := h
  refine ⟨xs, ⟨o, s _ _ h1⟩, h2, fun i x e hx he => ?_⟩
  obtain ⟨b, e1, g, bl, m1, m2, m3⟩ := h3 i x e hx he
  exact ⟨b, e1, g, bl, sqt_same s m1, sqt_same s m2, m3.same s⟩
theorem span_och {C p q : Addr} {S : Spn} (s : Och d H H') (n : q ≠ d) (h : SpanAt H C p q S) : SpanAt H' C p q S := by
  obtain ⟨⟨dx, h1⟩, ⟨L, h2, h3, h4⟩, h5⟩ := h
  exact ⟨⟨dx, s.at_ h1 id⟩, ⟨L, s.off _ _ n h2, h3, fun x hx => vecf_och s (h4 x hx)⟩, h5⟩
theorem nkey_och {k : FN.NK} (s : Och d H H') (h : FN.NKeyAt H k a) : FN.NKeyAt H' k a := by
  obtain ⟨bs, h1, h2, h3⟩ := h
  exact ⟨bs, s.at_ h1 id, h2, fun i c ks e1 e2 => s.at_ (h3 i c ks e1 e2) id⟩
theorem nd_och {P : Program} {w : World} {xs : FN.NXs} (s : Och d H H') (n : a ≠ d) (h : FN.ND P w H a xs) : FN.ND P w H' a xs := ⟨s.off _ _ n h.1, fun x hx => nkey_och s (h.2 x hx)⟩
end
section
variable {P : Program} {w : World} {K : PySem.W.Frag} {SC MCl : Addr} {H H' : Hp} {a d : Addr} {X : MC} {ps : List Stp} {M : Mac}
theorem MacAt.same (h : MacAt P w K SC MCl H a X ps M) (s : Same H H') : MacAt P w K SC MCl H' a X ps M := by
  obtain ⟨⟨dx, h1⟩, h2, h3, ⟨om, h4⟩, h5, ⟨xs, h6, h7, h8⟩, ⟨h9, h10, h11⟩, ⟨h12, h13, h14⟩, ⟨h15, h16, h17⟩, ⟨h18, h19, h20⟩, h21, h22⟩ := h
  exact ⟨⟨dx, s _ _ h1⟩, stps_same h2 s, h3, ⟨om, s _ _ h4⟩, h5, ⟨xs, h6.keeps s, h7, h8⟩, ⟨s _ _ h9, h10, fun i p S e1 e2 => (h11 i p S e1 e2).same s⟩, ⟨s _ _ h12, h13, fun i b st e1 e2 => st_same s (h14 i b st e1 e2)⟩,
    ⟨s _ _ h15, h16, fun i b l e1 e2 => s _ _ (h17 i b l e1 e2)⟩, ⟨s _ _ h18, h19, fun i b l e1 e2 => moves_same s (h20 i b l e1 e2)⟩, h21, h22⟩
end
end FC
set_option Elab.async false
set_option linter.all false
set_option maxRecDepth 100000
set_option maxHeartbeats 4000000
/-! A machine's changes: a blend placed, an anchor more, a control more. -/
namespace FC
open PySem PySem.Spec PyProof.Rows L2
theorem cells_mem {X : MC} {z : Addr} : z ∈ X.cells ↔ z = X.ct ∨ z = X.sp ∨ z = X.an ∨ z = X.mb ∨ z = X.mv ∨ z ∈ X.ss.map (·.2) ∨ z ∈ X.ms := by
  unfold MC.cells
  simp [List.mem_cons, List.mem_append]
theorem nodup_get {α : Type} : ∀ {l : List α}, l.Nodup → ∀ {i j : Nat} {x : α}, l[i]? = some x → l[j]? = some x → i = j
  | [], _, i, j, x, hi, _ => by simp at hi
  | y :: r, h, 0, 0, x, _, _ => rfl
  | y :: r, h, 0, j + 1, x, hi, hj => by
    have hi : y = x := by simpa using hi
    have hj : r[j]? = some x := by simpa using hj
    exact absurd (List.mem_of_getElem? hj) (by rw [← hi]; exact (List.nodup_cons.mp h).1)
  | y :: r, h, i + 1, 0, x, hi, hj => by
    have hj : y = x := by simpa using hj
    have hi : r[i]? = some x := by simpa using hi
    exact absurd (List.mem_of_getElem? hi) (by rw [← hj]; exact (List.nodup_cons.mp h).1)
  | y :: r, h, i + 1, j + 1, x, hi, hj => by
    have := nodup_get (List.nodup_cons.mp h).2 (i := i) (j := j) (x := x) (by simpa using hi) (by simpa using hj)
    omega
section
variable {P : Program} {w : World} {K : PySem.W.Frag} {SC MCl : Addr} {H H' : Hp} {a d : Addr} {X : MC} {ps : List Stp} {M : Mac}
/-- the cells stand apart -/
structure Apart (X : MC) : Prop where
  ct_sp : X.ct ≠ X.sp
  ct_an : X.ct ≠ X.an
  ct_mb : X.ct ≠ X.mb
  ct_mv : X.ct ≠ X.mv
  sp_an : X.sp ≠ X.an
  sp_mb : X.sp ≠ X.mb
  sp_mv : X.sp ≠ X.mv
  an_mb : X.an ≠ X.mb
  an_mv : X.an ≠ X.mv
  mb_mv : X.mb ≠ X.mv
  ct_ss : X.ct ∉ X.ss.map (·.2)
  sp_ss : X.sp ∉ X.ss.map (·.2)
  an_ss : X.an ∉ X.ss.map (·.2)
  mb_ss : X.mb ∉ X.ss.map (·.2)
  mv_ss : X.mv ∉ X.ss.map (·.2)
  ct_ms : X.ct ∉ X.ms
  sp_ms : X.sp ∉ X.ms
  an_ms : X.an ∉ X.ms
  mb_ms : X.mb ∉ X.ms
  mv_ms : X.mv ∉ X.ms
  ss : (X.ss.map (·.2)).Nodup
  ms : X.ms.Nodup
  ss_ms : ∀ z ∈ X.ss.map (·.2), z ∉ X.ms
theorem apart_of (h : X.cells.Nodup) : Apart X := by
  unfold MC.cells at h
  simp only [List.nodup_cons, List.mem_cons, List.mem_append, not_or, List.nodup_append] at h
  obtain ⟨⟨a1, a2, a3, a4, a5, a6⟩, ⟨b1, b2, b3, b4, b5⟩, ⟨c1, c2, c3, c4⟩, ⟨d1, d2, d3⟩, ⟨e1, e2⟩, f1, f2, f3⟩ := h
  exact ⟨a1, a2, a3, a4, b1, b2, b3, c1, c2, d1, a5, b4, c3, d2, e1, a6, b5, c4, d3, e2, f1, f2, fun z hz hm => f3 z hz z hm rfl⟩
/-- a blend placed in the span of a control -/
theorem mac_place (h : MacAt P w K SC MCl H a X ps M) {c : Nat} {p : Addr × Addr} {S : Spn} (hp : X.ss[c]? = some p) (s : OffD p.2 H H') (hS : SpanAt H' SC p.1 p.2 S) (ha : SpanAt H SC p.1 p.2 ((M.spans[c]?).getD [])) :
    MacAt P w K SC MCl H' a X ps { M with spans := M.spans.set c S } := by
  have ap := apart_of h.apart
  have o : Och p.2 H H' := ⟨s, by obtain ⟨L, hL, _⟩ := ha.lns; exact ⟨_, hL, True.intro⟩⟩
  have hm : p.2 ∈ X.ss.map (·.2) := List.mem_map.mpr ⟨p, List.mem_of_getElem? hp, rfl⟩
  have ne : ∀ z, z ∉ X.ss.map (·.2) → z ≠ p.2 := fun z hz e => hz (by rw [e]; exact hm)
  obtain ⟨⟨dx, h1⟩, h2, h3, ⟨om, h4⟩, h5, ⟨xs, h6, h7, h8⟩, ⟨h9, h10, h11⟩, ⟨h12, h13, h14⟩, ⟨h15, h16, h17⟩, ⟨h18, h19, h20⟩, h21, h22⟩ := h
  refine ⟨⟨dx, o.at_ h1 id⟩, stps_och o h2, h3, ⟨om, o.at_ h4 id⟩, h5, ⟨xs, nd_och o (ne _ ap.ct_ss) h6, h7, h8⟩, ⟨s _ _ (ne _ ap.sp_ss) h9, by rw [List.length_set]; exact h10, fun i q T e1 e2 => ?_⟩,
    ⟨s _ _ (ne _ ap.an_ss) h12, h13, fun i b st e1 e2 => st_och o (h14 i b st e1 e2)⟩, ⟨s _ _ (ne _ ap.mb_ss) h15, h16, fun i b l e1 e2 => s _ _ ?_ (h17 i b l e1 e2)⟩, ⟨s _ _ (ne _ ap.mv_ss) h18, h19, fun i b l e1 e2 => moves_och o (h20 i b l e1 e2)⟩, h21, by rw [List.length_set]; exact h22⟩
  · by_cases hi : c = i
    · subst hi
      have e2 : (M.spans.set c S)[c]? = some T := e2
      rw [List.getElem?_set_self' ] at e2
      rw [hp] at e1
      cases e1
      cases z : M.spans[c]? with
      | none => rw [z] at e2; cases e2
      | some S0 =>
        rw [z] at e2
        obtain rfl : S = T := Option.some.inj e2
        exact hS
    · have e2 : (M.spans.set c S)[i]? = some T := e2
      rw [List.getElem?_set_ne hi] at e2
      refine span_och o (fun z => hi ?_) (h11 i q T e1 e2)
      have g1 : (X.ss.map (·.2))[c]? = some p.2 := by rw [List.getElem?_map, hp]; rfl
      have g2 : (X.ss.map (·.2))[i]? = some p.2 := by rw [List.getElem?_map, e1, ← z]; rfl
      exact nodup_get ap.ss g1 g2
  · intro z
    exact ap.ss_ms _ hm (by rw [← z]; exact List.mem_of_getElem? e1)
/-- an anchor more -/
theorem mac_anchor (h : MacAt P w K SC MCl H a X ps M) {c : Nat} {mc sa : Addr} {l : List Int} {name : Int} {s : Sta} (hc : X.ms[c]? = some mc) (hl : M.members[c]? = some l) (hs : StAt K H sa ps s)
    (e : H' = upd (upd H X.an (.lst (X.st.map V.ref ++ [V.ref sa]))) mc (.lst (l.map V.int ++ [V.int name]))) :
    MacAt P w K SC MCl H' a { X with st := X.st ++ [sa] } ps { M with anchors := M.anchors ++ [s], members := M.members.set c (l ++ [name]) } := by
  have ap := apart_of h.apart
  obtain ⟨⟨dx, h1⟩, h2, h3, ⟨om, h4⟩, h5, ⟨xs, h6, h7, h8⟩, ⟨h9, h10, h11⟩, ⟨h12, h13, h14⟩, ⟨h15, h16, h17⟩, ⟨h18, h19, h20⟩, h21, h22⟩ := h
  have hmc : mc ∈ X.ms := List.mem_of_getElem? hc
  have nm : ∀ z, z ∉ X.ms → z ≠ mc := fun z hz q => hz (by rw [q]; exact hmc)
  have o1 : Och X.an H (upd H X.an (.lst (X.st.map V.ref ++ [V.ref sa]))) := ⟨OffD.upd (fun _ _ _ h => h), ⟨_, h12, True.intro⟩⟩
  have g17 := h17 c mc l hc hl
  have hmc1 : upd H X.an (.lst (X.st.map V.ref ++ [V.ref sa])) mc = some (.lst (l.map V.int)) := (upd_ne (nm _ ap.an_ms).symm).trans g17
  have o2 : Och mc (upd H X.an (.lst (X.st.map V.ref ++ [V.ref sa]))) H' := ⟨by rw [e]; exact OffD.upd (fun _ _ _ h => h), ⟨_, hmc1, True.intro⟩⟩
  refine ⟨⟨dx, o2.at_ (o1.at_ h1 id) id⟩, stps_och o2 (stps_och o1 h2), h3, ⟨om, o2.at_ (o1.at_ h4 id) id⟩, h5, ⟨xs, nd_och o2 (nm _ ap.ct_ms) (nd_och o1 ap.ct_an h6), h7, h8⟩,
    ⟨o2.off _ _ (nm _ ap.sp_ms) (o1.off _ _ ap.sp_an h9), h10, fun i q T e1 e2 => ?_⟩, ⟨?_, by rw [List.length_append, List.length_append, h13]; rfl, fun i b st e1 e2 => ?_⟩, ⟨o2.off _ _ (nm _ ap.mb_ms) (o1.off _ _ ap.an_mb.symm h15), by rw [List.length_set]; exact h16, fun i b l2 e1 e2 => ?_⟩,
    ⟨o2.off _ _ (nm _ ap.mv_ms) (o1.off _ _ ap.an_mv.symm h18), h19, fun i b l e1 e2 => moves_och o2 (moves_och o1 (h20 i b l e1 e2))⟩, h21, by rw [List.length_set]; exact h22⟩
  · have hq : q.2 ∈ X.ss.map (·.2) := List.mem_map.mpr ⟨q, List.mem_of_getElem? e1, rfl⟩
    refine span_och o2 (nm _ (ap.ss_ms _ hq)) (span_och o1 (fun z => ap.an_ss (by rw [← z]; exact hq)) (h11 i q T e1 e2))
  · show H' X.an = some (.lst ((X.st ++ [sa]).map V.ref))
    rw [e, upd_ne (nm _ ap.an_ms), upd_same, List.map_append]
    rfl
  · have e1 : (X.st ++ [sa])[i]? = some b := e1
    have e2 : (M.anchors ++ [s])[i]? = some st := e2
    rcases get_snoc e1 with ⟨l1, e1⟩ | ⟨l1, e3⟩
    · rw [List.getElem?_append_left (by omega)] at e2
      exact st_och o2 (st_och o1 (h14 i b st e1 e2))
    · rw [List.getElem?_append_right (by omega), l1, h13, Nat.sub_self] at e2
      obtain rfl : s = st := Option.some.inj e2
      rw [← e3]
      exact st_och o2 (st_och o1 hs)
  · have e2 : (M.members.set c (l ++ [name]))[i]? = some l2 := e2
    by_cases hi : c = i
    · subst hi
      rw [hc] at e1
      obtain rfl : mc = b := Option.some.inj e1
      rw [List.getElem?_set_self', hl] at e2
      obtain rfl : l ++ [name] = l2 := Option.some.inj e2
      rw [e, upd_same, List.map_append]
      rfl
    · rw [List.getElem?_set_ne hi] at e2
      have hb : b ≠ mc := fun z => hi (nodup_get ap.ms hc (by rw [← z]; exact e1))
      have hb2 : b ≠ X.an := fun z => ap.an_ms (by rw [← z]; exact List.mem_of_getElem? e1)
      exact o2.off _ _ hb (o1.off _ _ hb2 (h17 i b l2 e1 e2))
/-- a control more -/
theorem mac_ctl (h : MacAt P w K SC MCl H a X ps M) {xs : FN.NXs} {key : Addr} {s : Sta} (hx : FN.ND P w H X.ct xs) (hxl : xs.length = M.controls.length) (hxa : ∀ (i : Nat) (t : Sta), M.controls[i]? = some t → ∃ b, xs[i]? = some (ctlK t, b, .int (i : Nat))) (hk : FN.NKeyAt H (ctlK s) key) (hn : FN.atN xs (ctlK s) = none)
    {H1 H2 H3 H4 H5 : Hp} {x dd ml : Addr} (e1 : H1 = upd H X.ct (FN.NHO P w X.ct (FN.putN xs (ctlK s) key (.int xs.length)))) (s2 : Same H1 H2) (hsp : SpanAt H2 SC x dd []) (hdd : H1 dd = none) (hxn : H1 x = none)
    (e3 : H3 = upd H2 X.sp (.lst (X.ss.map (fun p => V.ref p.1) ++ [V.ref x]))) (hml : H3 ml = none) (e4 : H4 = upd H3 ml (.lst [])) (e5 : H5 = upd H4 X.mb (.lst (X.ms.map V.ref ++ [V.ref ml]))) :
    MacAt P w K SC MCl H5 a { X with ss := X.ss ++ [(x, dd)], ms := X.ms ++ [ml] } ps { M with controls := M.controls ++ [s], spans := M.spans ++ [[]], members := M.members ++ [[]] } ∧ Frm X.cells H H5 ∧ H dd = none ∧ H ml = none := by
  have ap := apart_of h.apart
  obtain ⟨⟨dx, h1⟩, h2, h3, ⟨om, h4⟩, h5, _, ⟨h9, h10, h11⟩, ⟨h12, h13, h14⟩, ⟨h15, h16, h17⟩, ⟨h18, h19, h20⟩, h21, h22, h23⟩ := h
  have o1 : Och X.ct H H1 := ⟨by rw [e1]; exact OffD.upd (fun _ _ _ h => h), ⟨_, hx.1, True.intro⟩⟩
  have sp1 : H2 X.sp = some (.lst (X.ss.map fun p => V.ref p.1)) := s2 _ _ (o1.off _ _ ap.ct_sp.symm h9)
  have o3 : Och X.sp H2 H3 := ⟨by rw [e3]; exact OffD.upd (fun _ _ _ h => h), ⟨_, sp1, True.intro⟩⟩
  have s4 : Same H3 H4 := by rw [e4]; exact same_upd (Same.refl H3) hml
  have mb1 : H4 X.mb = some (.lst (X.ms.map V.ref)) := s4 _ _ (o3.off _ _ ap.sp_mb.symm (s2 _ _ (o1.off _ _ ap.ct_mb.symm h15)))
  have o5 : Och X.mb H4 H5 := ⟨by rw [e5]; exact OffD.upd (fun _ _ _ h => h), ⟨_, mb1, True.intro⟩⟩
  have hput : FN.putN xs (ctlK s) key (.int xs.length) = xs ++ [(ctlK s, key, .int xs.length)] := by
    unfold FN.putN
    rw [FN.atN_any, hn]
    rfl
  have nd1 : FN.ND P w H1 X.ct (xs ++ [(ctlK s, key, .int xs.length)]) := by
    have := hx.put hk (.int xs.length)
    rw [← e1, hput] at this
    exact this
  have nd5 := nd_och o5 ap.ct_mb ((nd_och o3 ap.ct_sp (nd1.keeps s2)).keeps s4)
  have there : ∀ z ∈ X.cells, H z ≠ none := fun z hz q => by
    rcases cells_mem.mp hz with rfl | rfl | rfl | rfl | rfl | hz | hz
    · rw [hx.1] at q; cases q
    · rw [h9] at q; cases q
    · rw [h12] at q; cases q
    · rw [h15] at q; cases q
    · rw [h18] at q; cases q
    · obtain ⟨p, hp, rfl⟩ := List.mem_map.mp hz
      obtain ⟨i, hi⟩ := List.getElem?_of_mem hp
      have hlt := get_lt hi
      obtain ⟨L, hL, _⟩ := (h11 i p _ hi (List.getElem?_eq_getElem (by omega))).lns
      rw [hL] at q
      cases q
    · obtain ⟨i, hi⟩ := List.getElem?_of_mem hz
      have hlt := get_lt hi
      rw [h17 i z _ hi (List.getElem?_eq_getElem (by omega))] at q
      cases q
  have up1 : ∀ z, H z ≠ none → H1 z ≠ none := fun z hz q => by
    by_cases c : z = X.ct
    · rw [c, nd1.1] at q; cases q
    · cases y : H z with
      | none => exact hz y
      | some o => rw [o1.off _ _ c y] at q; cases q
  have hddH : H dd = none := by
    cases y : H dd with
    | none => rfl
    | some o => exact absurd hdd (up1 dd (by rw [y]; exact fun z => nomatch z))
  have up3 : ∀ z, H2 z ≠ none → H3 z ≠ none := fun z hz q => by
    by_cases c : z = X.sp
    · rw [c, e3, upd_same] at q; cases q
    · cases y : H2 z with
      | none => exact hz y
      | some o => rw [o3.off _ _ c y] at q; cases q
  have up2 : ∀ z, H1 z ≠ none → H2 z ≠ none := fun z hz q => by
    cases y : H1 z with
    | none => exact hz y
    | some o => rw [s2 _ _ y] at q; cases q
  have hmlH : H ml = none := by
    cases y : H ml with
    | none => rfl
    | some o => exact absurd hml (up3 ml (up2 ml (up1 ml (by rw [y]; exact fun z => nomatch z))))
  have hdd2 : H2 dd ≠ none := fun q => by
    obtain ⟨L, hL, _⟩ := hsp.lns
    rw [hL] at q
    cases q
  have ndm : dd ≠ ml := fun z => up3 dd hdd2 (by rw [z]; exact hml)
  have ddc : dd ∉ X.cells := fun z => there dd z hddH
  have mlc : ml ∉ X.cells := fun z => there ml z hmlH
  have ddsp : dd ≠ X.sp := fun z => ddc (cells_mem.mpr (.inr (.inl z)))
  have ddmb : dd ≠ X.mb := fun z => ddc (cells_mem.mpr (.inr (.inr (.inr (.inl z)))))
  have mlmb : ml ≠ X.mb := fun z => mlc (cells_mem.mpr (.inr (.inr (.inr (.inl z)))))
  refine ⟨⟨⟨dx, o5.at_ (s4 _ _ (o3.at_ (s2 _ _ (o1.at_ h1 id)) id)) id⟩, stps_och o5 (stps_same (stps_och o3 (stps_same (stps_och o1 h2) s2)) s4), h3, ⟨om, o5.at_ (s4 _ _ (o3.at_ (s2 _ _ (o1.at_ h4 id)) id)) id⟩, h5,
    ⟨_, nd5, by rw [List.length_append, List.length_append, hxl]; rfl, fun i t e2 => ?_⟩, ⟨?_, by rw [List.length_append, List.length_append, h10]; rfl, fun i q T g1 g2 => ?_⟩,
    ⟨o5.off _ _ ap.an_mb (s4 _ _ (o3.off _ _ ap.sp_an.symm (s2 _ _ (o1.off _ _ ap.ct_an.symm h12)))), h13, fun i b st g1 g2 => st_och o5 (st_same s4 (st_och o3 (st_same s2 (st_och o1 (h14 i b st g1 g2)))))⟩,
    ⟨?_, by rw [List.length_append, List.length_append, h16]; rfl, fun i b l g1 g2 => ?_⟩,
    ⟨o5.off _ _ ap.mb_mv.symm (s4 _ _ (o3.off _ _ ap.sp_mv.symm (s2 _ _ (o1.off _ _ ap.ct_mv.symm h18)))), h19, fun i b l g1 g2 => moves_och o5 (moves_same s4 (moves_och o3 (moves_same s2 (moves_och o1 (h20 i b l g1 g2)))))⟩, ?_, ?_⟩, ?_, hddH, hmlH⟩
  · have e2 : (M.controls ++ [s])[i]? = some t := e2
    rcases get_snoc e2 with ⟨l1, e2⟩ | ⟨l1, e2⟩
    · obtain ⟨b, hb⟩ := hxa i t e2
      exact ⟨b, by rw [List.getElem?_append_left (by omega)]; exact hb⟩
    · refine ⟨key, ?_⟩
      rw [List.getElem?_append_right (by omega), hxl, l1, Nat.sub_self, e2]
      rfl
  · show H5 X.sp = some (.lst ((X.ss ++ [(x, dd)]).map fun p => V.ref p.1))
    rw [List.map_append]
    exact o5.off _ _ ap.sp_mb (s4 _ _ (by rw [e3, upd_same]; rfl))
  · have g1 : (X.ss ++ [(x, dd)])[i]? = some q := g1
    have g2 : (M.spans ++ [[]])[i]? = some T := g2
    rcases get_snoc g1 with ⟨l1, g1⟩ | ⟨l1, g3⟩
    · rw [List.getElem?_append_left (by omega)] at g2
      have hq : q.2 ∈ X.ss.map (·.2) := List.mem_map.mpr ⟨q, List.mem_of_getElem? g1, rfl⟩
      exact span_och o5 (fun z => ap.mb_ss (by rw [← z]; exact hq)) ((span_och o3 (fun z => ap.sp_ss (by rw [← z]; exact hq)) ((span_och o1 (fun z => ap.ct_ss (by rw [← z]; exact hq)) (h11 i q T g1 g2)).same s2)).same s4)
    · rw [List.getElem?_append_right (by omega), l1, h10, Nat.sub_self] at g2
      obtain rfl : [] = T := Option.some.inj g2
      rw [← g3]
      exact span_och o5 ddmb ((span_och o3 ddsp hsp).same s4)
  · show H5 X.mb = some (.lst ((X.ms ++ [ml]).map V.ref))
    rw [e5, upd_same, List.map_append]
    rfl
  · have g1 : (X.ms ++ [ml])[i]? = some b := g1
    have g2 : (M.members ++ [[]])[i]? = some l := g2
    rcases get_snoc g1 with ⟨l1, g1⟩ | ⟨l1, g3⟩
    · rw [List.getElem?_append_left (by omega)] at g2
      have hb : b ∈ X.ms := List.mem_of_getElem? g1
      exact o5.off _ _ (fun z => ap.mb_ms (by rw [← z]; exact hb)) (s4 _ _ (o3.off _ _ (fun z => ap.sp_ms (by rw [← z]; exact hb)) (s2 _ _ (o1.off _ _ (fun z => ap.ct_ms (by rw [← z]; exact hb)) (h17 i b l g1 g2)))))
    · rw [List.getElem?_append_right (by omega), l1, h16, Nat.sub_self] at g2
      obtain rfl : [] = l := Option.some.inj g2
      rw [← g3]
      exact o5.off _ _ mlmb (by rw [e4, upd_same]; rfl)
  · have pm : (MC.cells { X with ss := X.ss ++ [(x, dd)], ms := X.ms ++ [ml] }).Perm (dd :: ml :: X.cells) := by
      show List.Perm ([X.ct, X.sp, X.an, X.mb, X.mv] ++ ((X.ss ++ [(x, dd)]).map (·.2) ++ (X.ms ++ [ml]))) (dd :: ml :: ([X.ct, X.sp, X.an, X.mb, X.mv] ++ (X.ss.map (·.2) ++ X.ms)))
      generalize [X.ct, X.sp, X.an, X.mb, X.mv] = A5
      rw [List.map_append]
      have q1 : A5 ++ (X.ss.map (·.2) ++ [(x, dd)].map (·.2) ++ (X.ms ++ [ml])) = (A5 ++ X.ss.map (·.2)) ++ dd :: (X.ms ++ [ml]) := by simp
      have q2 : (A5 ++ X.ss.map (·.2)) ++ (X.ms ++ [ml]) = (A5 ++ (X.ss.map (·.2) ++ X.ms)) ++ ml :: [] := by simp
      rw [q1]
      refine List.perm_middle.trans (List.Perm.cons dd ?_)
      rw [q2]
      refine List.perm_middle.trans (List.Perm.cons ml ?_)
      rw [List.append_nil]
    rw [pm.nodup_iff, List.nodup_cons, List.nodup_cons, List.mem_cons, not_or]
    exact ⟨⟨ndm, ddc⟩, mlc, h21⟩
  · exact ⟨by rw [List.length_append, List.length_append, h22]; rfl, by rw [List.length_append, List.length_append, h23]; rfl⟩
  · intro b o hb hn
    have c1 : b ≠ X.ct := fun z => hn (cells_mem.mpr (.inl z))
    have c2 : b ≠ X.sp := fun z => hn (cells_mem.mpr (.inr (.inl z)))
    have c3 : b ≠ X.mb := fun z => hn (cells_mem.mpr (.inr (.inr (.inr (.inl z)))))
    exact o5.off _ _ c3 (s4 _ _ (o3.off _ _ c2 (s2 _ _ (o1.off _ _ c1 hb))))
end
end FC
set_option Elab.async false
set_option linter.all false
set_option maxRecDepth 100000
set_option maxHeartbeats 4000000
/-! locate. -/
namespace FC
open PySem PySem.Spec PyProof.Rows L2
theorem ctlK_inj : ∀ {s t : Sta}, ctlK s = ctlK t → s = t
  | [], [], _ => rfl
  | [], _ :: _, h => by cases h
  | _ :: _, [], h => by cases h
  | p :: s, q :: t, h => by
    unfold ctlK at h
    rw [List.map_cons, List.map_cons] at h
    injection h with h1 h2
    injection h1 with h3 h4
    injection h4 with h5 _
    rw [ctlK_inj h2, Prod.ext (Sum.inl.inj h3) (Sum.inl.inj h5)]
theorem atN_idx (s : Sta) : ∀ (cs : List Sta) (xs : FN.NXs) (n : Nat), xs.length = cs.length → (∀ (i : Nat) (t : Sta), cs[i]? = some t → ∃ b, xs[i]? = some (ctlK t, b, .int ((n + i : Nat) : Int))) →
    FN.atN xs (ctlK s) = (cs.findIdx? fun d => decide (d = s)).map fun i => V.int ((n + i : Nat) : Int)
  | [], [], _, _, _ => rfl
  | [], _ :: _, _, h, _ => by cases h
  | _ :: _, [], _, h, _ => by cases h
  | t :: cs, x :: xs, n, h, ha => by
    obtain ⟨b, hb⟩ := ha 0 t rfl
    have hb : x = (ctlK t, b, .int ((n + 0 : Nat) : Int)) := by simpa using hb
    subst hb
    rw [List.findIdx?_cons]
    by_cases e : t = s
    · subst e
      rw [decide_eq_true rfl, if_pos rfl]
      unfold FN.atN
      rw [List.find?_cons, decide_eq_true rfl]
      rfl
    · rw [decide_eq_false e, if_neg Bool.false_ne_true]
      have ih := atN_idx s cs xs (n + 1) (by simpa using h) fun i t2 h2 => by
        obtain ⟨b2, hb2⟩ := ha (i + 1) t2 (by simpa using h2)
        exact ⟨b2, by have z : n + 1 + i = n + (i + 1) := by omega
                      rw [z]
                      simpa using hb2⟩
      unfold FN.atN at ih ⊢
      rw [List.find?_cons, decide_eq_false (fun z => e (ctlK_inj z)), ih]
      cases cs.findIdx? fun d => decide (d = s) with
      | none => rfl
      | some i =>
        show some (V.int ((n + 1 + i : Nat) : Int)) = some (V.int ((n + (i + 1) : Nat) : Int))
        have z : n + 1 + i = n + (i + 1) := by omega
        rw [z]
/-- what may not change stands -/
def Fch (H H' : Hp) : Prop := ∀ a o, H a = some o → ¬ Ck o → H' a = some o
theorem sqt_fch {K : PySem.W.Frag} {H H' : Hp} {a : Addr} {xs : List V} (s : Fch H H') (h : SqT K H a xs) : SqT K H' a xs := by
  rcases h with (h | ⟨o, h⟩) | h
  · exact .inl (.inl (s _ _ h id))
  · exact .inl (.inr ⟨o, s _ _ h id⟩)
  · exact .inr h
theorem nkey_fch {k : FN.NK} {H H' : Hp} {a : Addr} (s : Fch H H') (h : FN.NKeyAt H k a) : FN.NKeyAt H' k a := by
  obtain ⟨bs, h1, h2, h3⟩ := h
  exact ⟨bs, s _ _ h1 id, h2, fun i c ks e1 e2 => s _ _ (h3 i c ks e1 e2) id⟩
theorem st_fch {K : PySem.W.Frag} {H H' : Hp} {a : Addr} {ps : List Stp} {st : Sta} (s : Fch H H') (h : StAt K H a ps st) : StAt K H' a ps st := by
  obtain ⟨row, e, xs, h1, h2, h3⟩ := h
  refine ⟨row, e, xs, sqt_fch s h1, h2, fun i x p hx hp => ?_⟩
  obtain ⟨b, e1, e2⟩ := h3 i x p hx hp
  exact ⟨b, e1, sqt_fch s e2⟩
theorem mac_ck {P : Program} {w : World} {K : PySem.W.Frag} {SC MCl : Addr} {H : Hp} {a : Addr} {X : MC} {ps : List Stp} {M : Mac} (h : MacAt P w K SC MCl H a X ps M) : ∀ z ∈ X.cells, ∃ o, H z = some o ∧ Ck o := fun z hz => by
  obtain ⟨_, _, _, _, _, ⟨xs, h6, _⟩, ⟨h9, h10, h11⟩, ⟨h12, _⟩, ⟨h15, h16, h17⟩, ⟨h18, _⟩, _, _⟩ := h
  rcases cells_mem.mp hz with rfl | rfl | rfl | rfl | rfl | hz | hz
  · exact ⟨_, h6.1, True.intro⟩
  · exact ⟨_, h9, True.intro⟩
  · exact ⟨_, h12, True.intro⟩
  · exact ⟨_, h15, True.intro⟩
  · exact ⟨_, h18, True.intro⟩
  · obtain ⟨p, hp, rfl⟩ := List.mem_map.mp hz
    obtain ⟨i, hi⟩ := List.getElem?_of_mem hp
    have lt := get_lt hi
    obtain ⟨L, hL, _⟩ := (h11 i p _ hi (List.getElem?_eq_getElem (by omega))).lns
    exact ⟨_, hL, True.intro⟩
  · obtain ⟨i, hi⟩ := List.getElem?_of_mem hz
    have lt := get_lt hi
    exact ⟨_, h17 i z _ hi (List.getElem?_eq_getElem (by omega)), True.intro⟩
theorem fch_of {P : Program} {w : World} {K : PySem.W.Frag} {SC MCl : Addr} {H H' : Hp} {a : Addr} {X : MC} {ps : List Stp} {M : Mac} (h : MacAt P w K SC MCl H a X ps M) (f : Frm X.cells H H') : Fch H H' := fun b o hb n => f b o hb fun hm => by
  obtain ⟨u, hu, ck⟩ := mac_ck h b hm
  rw [hu] at hb
  exact n (by rw [← Option.some.inj hb]; exact ck)
theorem any_vget (v : Vec) (k : Int) : (v.any fun p => decide (p.1 = k)) = (vget v k).isSome := by
  have := valV_any (Sum.inl k) (kvs v)
  rw [any_kvs, valV_kvs] at this
  rw [this]
  cases vget v k <;> rfl
theorem h_swap {H1 G : Hp} {T : Hp → Prop} (e : H1 = G) (h : T H1) : T G := e ▸ h
theorem ps_weak {X : Cx} {st : Stmt} {t t' : TS} (h : PS X st t) (w : ∀ D σ H, t' D σ H → t D σ H) : PS X st t' := ⟨fun pins s σ H D I q => h.run pins s σ H D I (w D σ H q)⟩
/-- what locate leaves -/
def LocQ (P : Program) (w : World) (K : PySem.W.Frag) (SC MCl : Addr) (H : Hp) (a : Addr) (X : MC) (ps : List Stp) (M : Mac) (c : Int) (b : Bld) (Q : VK) : Prop :=
  ∀ (t bl : Addr) H' X', MacAt P w K SC MCl H' a X' ps M → Frm X.cells H H' → (∀ z ∈ X'.cells, z ∈ X.cells ∨ H z = none) → X'.es = X.es → SqT K H' t [.int c, .ref bl] → BldAt K H' bl b → Q (.ref t) H'
def spLocate (P : Program) (w : World) (K : PySem.W.Frag) (SC MCl : Addr) : Sp := fun vs H Q _ => ∃ (a sa : Addr) (X : MC) (ps : List Stp) (M M' : Mac) (s : Sta) (c : Int) (b : Bld), vs = [.ref a, .ref sa] ∧ MacAt P w K SC MCl H a X ps M ∧ StAt K H sa ps s ∧ M.controls.length < 100000 ∧ M.anchors.length < 100000 ∧
  (∀ l ∈ M.members, l.length < 100000) ∧ locate (moduliOf ps).1 M s = some (M', c, b) ∧ LocQ P w K SC MCl H a X ps M' c b Q
section
variable {P : Program} {w : World} {K : PySem.W.Frag} {mg : Str → Option Value} {base : Heap} {SC MCl : Addr}
abbrev NLc : List Str := ["self", "state", "key", "vector", "control", "name", "blend"]
theorem scLocate : FnScope NLc ["self", "state"] (defScope (mcM 1)) := ⟨rfl, rfl, rfl, by decide +kernel, rfl, by decide +kernel, by decide +kernel⟩
/-- the control is there, or made -/
def tCtl (P : Program) (w : World) (K : PySem.W.Frag) (SC MCl : Addr) : TS := fun D σ H => ∃ (a sa key va : Addr) (s : Sta) (X : MC) (ps : List Stp) (M : Mac), σ = [some (.ref a), some (.ref sa), some (.ref key), some (.ref va), none, none, none] ∧ MacAt P w K SC MCl H a X ps M ∧ FN.NKeyAt H (ctlK s) key ∧ M.controls.length < 100000 ∧
  (∀ i, idx M.controls s = some i → D.nx σ H) ∧
  (idx M.controls s = none → ∀ (H5 : Hp) (x dd ml : Addr), MacAt P w K SC MCl H5 a { X with ss := X.ss ++ [(x, dd)], ms := X.ms ++ [ml] } ps { M with controls := M.controls ++ [s], spans := M.spans ++ [[]], members := M.members ++ [[]] } → Frm X.cells H H5 → H dd = none → H ml = none → D.nx σ H5)
theorem idx_snoc {cs : List Sta} {s : Sta} (h : idx cs s = none) : idx (cs ++ [s]) s = some cs.length := by
  unfold idx at h ⊢
  rw [List.findIdx?_append, h, List.findIdx?_cons, decide_eq_true rfl]
  simp
theorem tCtl_use {D : Ends} {H : Hp} {a sa key va : Addr} {s : Sta} {X : MC} {ps : List Stp} {M : Mac} (hM : MacAt P w K SC MCl H a X ps M) (hk : FN.NKeyAt H (ctlK s) key) (hl : M.controls.length < 100000)
    (rest : ∀ (H2 : Hp) (X2 : MC), MacAt P w K SC MCl H2 a X2 ps (ctlOf M s).1 → idx (ctlOf M s).1.controls s = some (ctlOf M s).2 → Frm X.cells H H2 → (∀ z ∈ X2.cells, z ∈ X.cells ∨ H z = none) → X2.es = X.es → D.nx [some (.ref a), some (.ref sa), some (.ref key), some (.ref va), none, none, none] H2) :
    tCtl P w K SC MCl D [some (.ref a), some (.ref sa), some (.ref key), some (.ref va), none, none, none] H := by
  refine ⟨a, sa, key, va, s, X, ps, M, rfl, hM, hk, hl, fun i hi => ?_, fun hi H5 x dd ml m1 m2 m3 m4 => ?_⟩
  · have e : ctlOf M s = (M, i) := by unfold ctlOf; rw [hi]
    rw [e] at rest
    exact rest H X hM hi (Frm.refl _ _) (fun z hz => .inl hz) rfl
  · have e : ctlOf M s = ({ M with controls := M.controls ++ [s], spans := M.spans ++ [[]], members := M.members ++ [[]] }, M.controls.length) := by unfold ctlOf; rw [hi]
    rw [e] at rest
    refine rest H5 _ m1 (idx_snoc hi) m2 (fun z hz => ?_) rfl
    rcases cells_mem.mp hz with h | h | h | h | h | h | h
    · exact .inl (cells_mem.mpr (.inl h))
    · exact .inl (cells_mem.mpr (.inr (.inl h)))
    · exact .inl (cells_mem.mpr (.inr (.inr (.inl h))))
    · exact .inl (cells_mem.mpr (.inr (.inr (.inr (.inl h)))))
    · exact .inl (cells_mem.mpr (.inr (.inr (.inr (.inr (.inl h))))))
    · have h : z ∈ (X.ss ++ [(x, dd)]).map (·.2) := h
      rw [List.map_append, List.mem_append] at h
      rcases h with h | h
      · exact .inl (cells_mem.mpr (.inr (.inr (.inr (.inr (.inr (.inl h)))))))
      · have h : z = dd := by simpa using h
        exact .inr (by rw [h]; exact m3)
    · have h : z ∈ X.ms ++ [ml] := h
      rcases List.mem_append.mp h with h | h
      · exact .inl (cells_mem.mpr (.inr (.inr (.inr (.inr (.inr (.inr h)))))))
      · exact .inr (by rw [List.mem_singleton.mp h]; exact m4)
theorem hu3_of {n : Nat} {A : Around} (hr : Room n A) : FN.RoomD A := by
  have := hr.un
  unfold FN.RoomD
  omega
theorem ok_locate {f fI fP C : Addr} {fd fdI fdP : FuncData} (F : Fun K "locate" "Machine.locate" (mcM 1) f fd) (T : McT K MCl) (TS : SpT K SC) (B : Blt mg) (CS : Cal P w K mg base CX0 1 "split_state" ["moduli", "state"] (spSplit K)) (gS : mg "Span" = some (.ref SC)) (MS : Mk K SC fI)
    (FI : FnOk P w K mg base CX0 1 fI fdI ["self"] (spSpanI SC)) (bI : Binds K fdI ["self"] []) (GP : FnOk P w K mg base CX0 4 fP fdP ["self", "blend", "name"] (spPlace K SC)) (bP : Binds K fdP ["self", "blend", "name"] []) (mP : Meth K SC "place" fP) :
    FnOk P w K mg base CX0 5 f fd ["self", "state"] (spLocate P w K SC MCl) := by
  refine F.ok scLocate (fun vs H Q E h => ?_) (fun cdv A outer s H vs Q E hr h => ?_)
  · obtain ⟨a, sa, X, ps, M, M', st, c, b, rfl, _⟩ := h
    rfl
  · obtain ⟨a, sa, X, ps, M, M', st, c, b, rfl, hM, hst, hcl, hal, hml, hm, q⟩ := h
    have nd := scLocate.nd
    have hr1 : Room 1 _ := hr.mono (by decide)
    have hr2 : Room 2 _ := hr.mono (by decide)
    refine ⟨_, pss_cons (ps_asg (pe_cal CS hr1 pass0 (pa_cons (pe_fld (pv 0) rfl) (pa_cons (pv 1) pa_nil))) (pg_tup rfl (pgs_cons (pg_name (i := 2) nd rfl (Or.inl rfl)) (pgs_cons (pg_name (i := 3) nd rfl (Or.inl rfl)) pgs_nil))))
      (pss_cons (ps_weak (t' := tCtl P w K SC MCl) (ps_if (pt_cmp (FN.pc_nnotin (hu3_of hr) (pv 2) (pe_fld (pv 0) rfl)))
        (pss_cons (FN.ps_nput (hu3_of hr) (pe_fld (pv 0) rfl) (pv 2) (pe_callB FN.call_lenN (by rfl) B.len PySem.boot_len (pa_cons (pe_fld (pv 0) rfl) pa_nil)) rfl)
        (pss_cons (ps_expr (pe_bm PySem.F.plainAttrs_list PySem.F.slot_list_append PySem.F.type_list_append mt_append (pe_fld (pv 0) rfl) (pa_cons (pe_make0 MS FI hr2 (by rfl) gS bI .nil pass0) pa_nil)))
        (pss_one (ps_expr (pe_bm PySem.F.plainAttrs_list PySem.F.slot_list_append PySem.F.type_list_append mt_append (pe_fld (pv 0) rfl) (pa_cons (pe_lst pa_nil) pa_nil)))))) pss_nil) ?w)
      (pss_cons (ps_set (i := 4) nd rfl (Or.inl rfl) (FN.pe_nget (hu3_of hr) (pe_fld (pv 0) rfl) (pv 2) (fun _ _ => rfl)))
      (pss_cons (ps_set (i := 5) nd rfl (Or.inl rfl) (pe_callB call_len (by rfl) B.len PySem.boot_len (pa_cons (pe_fld (pv 0) rfl) pa_nil)))
      (pss_cons (ps_set (i := 6) nd rfl (Or.inl rfl) (pe_meth (pe_ix (r := rIxL K) ix_list (pe_fld (pv 0) rfl) (pv 4) (fun _ _ => rfl)) TS.cl mP GP hr bP .nil pass0 (pa_cons (pe_tup (pa_cons (pv 3) (pa_cons pe_int pa_nil))) (pa_cons (pv 5) pa_nil))))
      (pss_cons (ps_if (pt_cmp (pc_din (hu_of hr) (pv 5) (pe_ix (r := rIxT K) ix_tup (pv 6) pe_int (fun _ _ => rfl))))
        (pss_cons (ps_expr (pe_bm PySem.F.plainAttrs_list PySem.F.slot_list_append PySem.F.type_list_append mt_append (pe_fld (pv 0) rfl) (pa_cons (pv 1) pa_nil)))
        (pss_one (ps_expr (pe_bm PySem.F.plainAttrs_list PySem.F.slot_list_append PySem.F.type_list_append mt_append (pe_ix (r := rIxL K) ix_list (pe_fld (pv 0) rfl) (pv 4) (fun _ _ => rfl)) (pa_cons (pv 5) pa_nil))))) pss_nil)
      (pss_one (ps_ret (pe_tup (pa_cons (pv 4) (pa_cons (pv 6) pa_nil)))))))))), ?_⟩
    case w =>
      rintro D σ H0 ⟨a, sa, key, va, s0, X, ps, M, rfl, hM, hk, hcl, c1, c2⟩
      obtain ⟨dx, hi⟩ := hM.ins
      obtain ⟨xs, hx, hxl, hxa⟩ := hM.controls
      have hat : FN.atN xs (ctlK s0) = (idx M.controls s0).map fun i => V.int (i : Nat) := by
        have := atN_idx s0 M.controls xs 0 hxl (fun i t h => by
          obtain ⟨b, hb⟩ := hxa i t h
          exact ⟨b, by rw [Nat.zero_add]; exact hb⟩)
        rw [this]
        unfold idx
        congr 1
        funext i
        rw [Nat.zero_add]
      refine ⟨_, rfl, _, rfl, a, MCl, dx, _, _, rfl, hi, T.cl, T.nct, rfl, X.ct, key, xs, ctlK s0, rfl, rfl, hx, hk, _, rfl, ?_⟩
      rw [hat]
      cases hix : idx M.controls s0 with
      | some i => exact iteF (c1 i hix)
      | none =>
        refine iteT ?_
        have hn : FN.atN xs (ctlK s0) = none := by rw [hat, hix]; rfl
        have ap := apart_of hM.apart
        obtain ⟨h9, h10, h11⟩ := hM.spans
        obtain ⟨h15, h16, h17⟩ := hM.members
        have hsz : 100001 < sizeLine := by rw [sizeLine_eq]; omega
        refine ⟨_, rfl, a, MCl, dx, _, _, rfl, hi, T.cl, T.nct, rfl, X.ct, xs, rfl, hx, _, rfl, a, MCl, dx, _, _, rfl, hi, T.cl, T.nct, rfl, _, rfl, X.ct, key, xs, ctlK s0, rfl, rfl, hx, hk, by omega, ?_⟩
        obtain ⟨H1, e1⟩ : ∃ H1, H1 = upd H0 X.ct (FN.NHO P w X.ct (FN.putN xs (ctlK s0) key (.int xs.length))) := ⟨_, rfl⟩
        have o1 : Och X.ct H0 H1 := ⟨by rw [e1]; exact OffD.upd (fun _ _ _ h => h), ⟨_, hx.1, True.intro⟩⟩
        refine h_swap e1 ?_
        have hi1 := o1.at_ hi id
        have sp1 := o1.off _ _ ap.ct_sp.symm h9
        have mb1 := o1.off _ _ ap.ct_mb.symm h15
        refine ⟨_, rfl, a, MCl, dx, _, _, rfl, hi1, T.cl, T.nsp, rfl, .inl ⟨rfl, _, SqL.of sp1⟩, fun x dx' hx0 hdx0 hne => ⟨x, dx', rfl, upd_same, fun d hd => ⟨rfl, ?_⟩⟩⟩
        obtain ⟨H2, e2⟩ : ∃ H2, H2 = upd (upd (upd (upd H1 dx' (.own x)) x (.ins SC dx' [])) d (.dK [])) x (.ins SC dx' [("lines", .ref d)]) := ⟨_, rfl⟩
        obtain ⟨s2, hsp, hd1, hdx⟩ := span_new hx0 hdx0 hne hd e2
        rw [← e2]
        have sp2 := s2 _ _ sp1
        refine ⟨X.sp, _, _, rfl, rfl, sp2, by rw [List.length_map, h10, hM.lens.1]; omega, ?_⟩
        obtain ⟨H3, e3⟩ : ∃ H3, H3 = upd H2 X.sp (.lst (X.ss.map (fun p => V.ref p.1) ++ [V.ref x])) := ⟨_, rfl⟩
        rw [← e3]
        have o3 : Och X.sp H2 H3 := ⟨by rw [e3]; exact OffD.upd (fun _ _ _ h => h), ⟨_, sp2, True.intro⟩⟩
        have hi3 := o3.at_ (s2 _ _ hi1) id
        have mb3 := o3.off _ _ ap.sp_mb.symm (s2 _ _ mb1)
        refine ⟨_, rfl, a, MCl, dx, _, _, rfl, hi3, T.cl, T.nmb, rfl, .inl ⟨rfl, _, SqL.of mb3⟩, (by show 0 ≤ sizeLine; omega), fun ml hml => ?_⟩
        obtain ⟨H4, e4⟩ : ∃ H4, H4 = upd H3 ml (.lst []) := ⟨_, rfl⟩
        rw [← e4]
        have mb4 : H4 X.mb = some (.lst (X.ms.map V.ref)) := by rw [e4]; exact same_upd (Same.refl H3) hml _ _ mb3
        refine ⟨X.mb, _, _, rfl, rfl, mb4, by rw [List.length_map, h16, hM.lens.2]; omega, ?_⟩
        obtain ⟨m1, m2, m3, m4⟩ := mac_ctl hM hx hxl hxa hk hn e1 s2 hsp hd1 hx0 e3 hml e4 rfl
        exact c2 hix _ x d ml m1 m2 m3 m4
    case refine_2 =>
      obtain ⟨dx, hi⟩ := hM.ins
      obtain ⟨om, h4⟩ := hM.moduli
      obtain ⟨k1, k2, k3, k4⟩ := moduli_le hM.ok.1
      have hst' := hst
      obtain ⟨row, es, hrow⟩ := hst
      have hsta : StaAt K H sa st := by rw [es]; exact hrow.sta
      have hsl : st.length = ps.length := by rw [es, stOf_len]
      have hle := hM.ok.2
      refine ⟨_, rfl, a, MCl, dx, _, _, rfl, hi, T.cl, T.nmd, rfl, _, rfl, X.md, sa, (moduliOf ps).1, st, rfl, .inl (.inr ⟨om, h4⟩), hsta, by rw [k3, hsl], by omega, fun m hmm => ⟨(k4 m hmm).1, pow3_lt (by omega) (k4 m hmm).1 (k4 m hmm).2⟩, fun t key va H1 hva s1 ht hk1 hv1 hd1 => ?_⟩
      refine ⟨t, _, rfl, ht, rfl, _, _, rfl, _, _, rfl, rfl, ?_⟩
      refine tCtl_use (hM.same s1) hk1 hcl fun H2 X2 hM2 hix fr2 hcells hes => ?_
      have hm1 := hM.same s1
      have fc := fch_of hm1 fr2
      have hvac : va ∉ X.cells := fun z => by
        obtain ⟨o, ho, _⟩ := mac_ck hM va z
        rw [hva] at ho
        cases ho
      have hv2 := fr2 va _ hv1 hvac
      have hk2 := nkey_fch fc hk1
      have hst2 := st_fch fc (st_same s1 hst')
      unfold locate at hm
      obtain ⟨S, hS, hm⟩ := bnd_some.mp hm
      obtain ⟨r, hpl, hm⟩ := bnd_some.mp hm
      have hm' := Option.some.inj hm
      clear hm
      have hanc : (ctlOf M (split (moduliOf ps).fst st).1).1.anchors.length < 100000 := by
        unfold ctlOf
        split <;> exact hal
      have hmem : ∀ l ∈ (ctlOf M (split (moduliOf ps).fst st).1).1.members, l.length < 100000 := by
        unfold ctlOf
        split
        · exact hml
        · intro l hl
          rcases List.mem_append.mp hl with z | z
          · exact hml l z
          · rw [List.mem_singleton.mp z]
            decide
      generalize ctlOf M (split (moduliOf ps).fst st).1 = mc at hM2 hix hS hpl hm' hanc hmem
      obtain ⟨M2, c0⟩ := mc
      obtain ⟨dx2, hi2⟩ := hM2.ins
      obtain ⟨xs, hx, hxl, hxa⟩ := hM2.controls
      have hat : FN.atN xs (ctlK (split (moduliOf ps).1 st).1) = some (.int (c0 : Nat)) := by
        have := atN_idx (split (moduliOf ps).1 st).1 M2.controls xs 0 hxl (fun i t h => by
          obtain ⟨b, hb⟩ := hxa i t h
          exact ⟨b, by rw [Nat.zero_add]; exact hb⟩)
        rw [this]
        have hix' : M2.controls.findIdx? (fun d => decide (d = (split (moduliOf ps).1 st).1)) = some c0 := hix
        rw [hix']
        show some (V.int ((0 + c0 : Nat) : Int)) = _
        rw [Nat.zero_add]
      obtain ⟨g9, g10, g11⟩ := hM2.spans
      obtain ⟨g12, g13, g14⟩ := hM2.anchors
      have hc0 := get_lt hS
      obtain ⟨p, hp⟩ : ∃ p, X2.ss[c0]? = some p := ⟨X2.ss[c0]'(by rw [g10]; exact hc0), List.getElem?_eq_getElem (by rw [g10]; exact hc0)⟩
      have hSp := g11 c0 p S hp hS
      obtain ⟨dxs, his⟩ := hSp.ins
      refine ⟨_, rfl, a, MCl, dx2, _, _, rfl, hi2, T.cl, T.nct, rfl, _, rfl, X2.ct, key, xs, _, .int (c0 : Nat), rfl, rfl, hx, hk2, hat, ?_⟩
      refine ⟨_, rfl, a, MCl, dx2, _, _, rfl, hi2, T.cl, T.nan, rfl, _, _, rfl, .inl ⟨_, SqL.of g12, rfl⟩, ?_⟩
      have hsz : 100001 < sizeLine := by rw [sizeLine_eq]; omega
      have pcell : p.2 ∈ X2.cells := cells_mem.mpr (.inr (.inr (.inr (.inr (.inr (.inl (List.mem_map.mpr ⟨p, List.mem_of_getElem? hp, rfl⟩)))))))
      have out : ∀ z o, H z = some o → z ∉ X.cells → z ∉ X2.cells := fun z o hz hn h2 => by
        rcases hcells z h2 with h | h
        · exact hn h
        · rw [s1 _ _ hz] at h; cases h
      have hvp : va ≠ p.2 := fun z => by
        rcases hcells p.2 pcell with h | h
        · exact hvac (by rw [z]; exact h)
        · rw [← z, hv1] at h; cases h
      refine ⟨_, rfl, a, MCl, dx2, _, _, rfl, hi2, T.cl, T.nsp, rfl, _, rfl, X2.sp, _, (c0 : Nat), .ref p.1, rfl, rfl, SqL.of g9, atI_nat (by rw [List.getElem?_map, hp]; rfl), p.1, dxs, _, rfl, his, rfl, _, rfl, (by show 2 ≤ sizeLine; decide), fun tt htt => ⟨_, rfl, ?_⟩⟩
      have s3 := same_upd (o := .tup [V.ref va, .int 1]) (Same.refl H2) htt
      have ett : SqT K (upd H2 tt (.tup [V.ref va, .int 1])) tt [.ref va, .int 1] := sqt_new
      generalize upd H2 tt (.tup [V.ref va, .int 1]) = H3 at s3 ett ⊢
      have hnm : (((X2.st.map V.ref).length : Nat) : Int) = (M2.anchors.length : Int) := by rw [List.length_map, g13]
      refine ⟨p.1, p.2, tt, va, S, r.1, (split (moduliOf ps).1 st).2, 1, _, r.2, rfl, hSp.same s3, ett, (VecAt.of hv2 hd1).same s3, hvp, ?_, by rw [hnm]; exact hpl, fun bl H4 off4 sp4 bl4 => ?_⟩
      · have := split_vlen (moduliOf ps).1 st 1
        show ((0, 1) :: (splitState (moduliOf ps).1 st 1).2).length ≤ 2000
        rw [List.length_cons]
        omega
      have hM3 := hM2.same s3
      have hM4 := mac_place hM3 hp off4 sp4 (by
        show SpanAt H3 SC p.1 p.2 ((M2.spans[c0]?).getD [])
        have hS' : M2.spans[c0]? = some S := hS
        rw [hS']
        exact hSp.same s3)
      have hst4 : StAt K H4 sa ps st := by
        have : Fch H3 H4 := fun b o hb n => off4 b o (fun z => by
          obtain ⟨u, hu, ck⟩ := mac_ck hM3 p.2 pcell
          rw [z, hu] at hb
          exact n (by rw [← Option.some.inj hb]; exact ck)) hb
        exact st_fch this (st_same s3 hst2)
      have frm4 : ∀ z o, H z = some o → z ∉ X.cells → H4 z = some o := fun z o hz hn => off4 z o (fun e => out z o hz hn (by rw [e]; exact pcell)) (s3 _ _ (fr2 z o (s1 _ _ hz) hn))
      obtain ⟨dx4, hi4⟩ := hM4.ins
      obtain ⟨k12, k13, k14⟩ := hM4.anchors
      obtain ⟨k15, k16, k17⟩ := hM4.members
      have hb4 := bl4
      obtain ⟨bd, hbt, hbv⟩ := bl4
      have dg := hbv.vec.dget (M2.anchors.length : Int)
      rw [← hnm] at dg
      refine ⟨_, rfl, _, rfl, bl, _, 0, .ref bd, rfl, rfl, hbt, atI_nat (j := 0) rfl, bd, _, rfl, dg, _, rfl, ?_⟩
      have hsome : ((vget r.2.1 (((X2.st.map V.ref).length : Nat) : Int)).map V.int).isSome = r.2.1.any fun p => decide (p.1 = (M2.anchors.length : Int)) := by
        rw [Option.isSome_map, ← any_vget, hnm]
      rw [hsome]
      have hcm : c0 < M2.members.length := by
        have h1 := hM2.lens.1
        have h2 := hM2.lens.2
        have h3 : c0 < M2.spans.length := hc0
        have h1 : M2.spans.length = M2.controls.length := h1
        have h2 : M2.members.length = M2.controls.length := h2
        omega
      have hcells2 : ∀ z ∈ X2.cells, z ∈ X.cells ∨ H z = none := fun z hz => (hcells z hz).imp id fun h => by
        cases y : H z with
        | none => rfl
        | some o => rw [s1 _ _ y] at h; cases h
      cases hany : r.2.1.any fun p => decide (p.1 = (M2.anchors.length : Int)) with
      | false =>
        have e : locFin (M2, c0) st r = ({ M2 with spans := M2.spans.set c0 r.1 }, (c0 : Int), r.2) := by
          unfold locFin
          rw [show (r.2.1.any fun p => decide (p.1 = ((M2, c0).1.anchors.length : Int))) = false from hany]
          rfl
        rw [e] at hm'
        cases hm'
        refine iteF ⟨_, rfl, _, rfl, (by show 2 ≤ sizeLine; decide), fun t9 ht9 => ?_⟩
        have s9 := same_upd (o := .tup [V.int (c0 : Int), .ref bl]) (Same.refl H4) ht9
        exact q t9 bl _ X2 (hM4.same s9) (fun z o hz hn => s9 _ _ (frm4 z o hz hn)) hcells2 hes sqt_new (hb4.same s9)
      | true =>
        have e : locFin (M2, c0) st r = ({ M2 with spans := M2.spans.set c0 r.1, anchors := M2.anchors ++ [st], members := M2.members.set c0 ((M2.members[c0]?).getD [] ++ [(M2.anchors.length : Int)]) }, (c0 : Int), r.2) := by
          unfold locFin
          rw [show (r.2.1.any fun p => decide (p.1 = ((M2, c0).1.anchors.length : Int))) = true from hany]
          rfl
        rw [e] at hm'
        cases hm'
        obtain ⟨lm, hlm⟩ : ∃ lm, M2.members[c0]? = some lm := ⟨M2.members[c0], List.getElem?_eq_getElem hcm⟩
        obtain ⟨mcc, hmc⟩ : ∃ mcc, X2.ms[c0]? = some mcc := ⟨X2.ms[c0]'(by rw [k16]; exact hcm), List.getElem?_eq_getElem (by rw [k16]; exact hcm)⟩
        have mcell : mcc ∈ X2.cells := cells_mem.mpr (.inr (.inr (.inr (.inr (.inr (.inr (List.mem_of_getElem? hmc)))))))
        have acell : X2.an ∈ X2.cells := cells_mem.mpr (.inr (.inr (.inl rfl)))
        have ap := apart_of hM4.apart
        have e17 := k17 c0 mcc lm hmc hlm
        have llm := hmem lm (List.mem_of_getElem? hlm)
        have nam : X2.an ≠ mcc := fun z => ap.an_ms (by rw [z]; exact List.mem_of_getElem? hmc)
        refine iteT ⟨_, rfl, a, MCl, dx4, _, _, rfl, hi4, T.cl, T.nan, rfl, .inl ⟨rfl, _, SqL.of k12⟩, _, rfl, X2.an, _, _, rfl, rfl, k12, by rw [List.length_map, k13]; have h : M2.anchors.length < 100000 := hanc; show M2.anchors.length + 1 ≤ sizeLine; omega, ?_⟩
        have o5 : Och X2.an H4 (upd H4 X2.an (.lst (X2.st.map V.ref ++ [V.ref sa]))) := ⟨OffD.upd (fun _ _ _ h => h), ⟨_, k12, True.intro⟩⟩
        have hi5 := o5.at_ hi4 id
        have mb5 := o5.off _ _ ap.an_mb.symm k15
        have mc5 := o5.off _ _ nam.symm e17
        refine ⟨_, rfl, a, MCl, dx4, _, _, rfl, hi5, T.cl, T.nmb, rfl, _, rfl, X2.mb, _, (c0 : Nat), .ref mcc, rfl, rfl, SqL.of mb5, atI_nat (by rw [List.getElem?_map, hmc]; rfl), .inl ⟨rfl, _, SqL.of mc5⟩, _, rfl, mcc, _, _, rfl, rfl, mc5, by rw [List.length_map]; omega, ?_⟩
        refine ⟨_, rfl, _, rfl, (by show 2 ≤ sizeLine; decide), fun t9 ht9 => ?_⟩
        have hM6 := mac_anchor (name := (M2.anchors.length : Int)) (H' := upd (upd H4 X2.an (.lst (X2.st.map V.ref ++ [V.ref sa]))) mcc (.lst (lm.map V.int ++ [V.int (((X2.st.map V.ref).length : Nat) : Int)]))) hM4 hmc hlm hst4 (by rw [hnm])
        have s9 := same_upd (o := .tup [V.int (c0 : Int), .ref bl]) (Same.refl _) ht9
        refine q t9 bl _ { X2 with st := X2.st ++ [sa] } ?_ (fun z o hz hn => s9 _ _ ?_) hcells2 hes sqt_new ?_
        · rw [hlm]
          exact hM6.same s9
        · have n2 := out z o hz hn
          rw [upd_ne (fun e => n2 (by rw [e]; exact mcell)), upd_ne (fun e => n2 (by rw [e]; exact acell))]
          exact frm4 z o hz hn
        · have o6 : Och mcc (upd H4 X2.an (.lst (X2.st.map V.ref ++ [V.ref sa]))) (upd (upd H4 X2.an (.lst (X2.st.map V.ref ++ [V.ref sa]))) mcc (.lst (lm.map V.int ++ [V.int (((X2.st.map V.ref).length : Nat) : Int)]))) := ⟨OffD.upd (fun _ _ _ h => h), ⟨_, mc5, True.intro⟩⟩
          exact (bld_och o6 (bld_och o5 hb4)).same s9
end
end FC
set_option Elab.async false
set_option linter.all false
set_option maxRecDepth 100000
set_option maxHeartbeats 4000000
/-! move. -/
namespace FC
open PySem PySem.Spec PyProof.Rows L2
/-- what move leaves -/
def MovQ (P : Program) (w : World) (K : PySem.W.Frag) (SC MCl : Addr) (H : Hp) (a : Addr) (X : MC) (ps : List Stp) (M : Mac) (e : List Int × Int × Bld) (Q : VK) : Prop :=
  ∀ (t : Addr) H' X', MacAt P w K SC MCl H' a X' ps M → Frm X.cells H H' → (∀ z ∈ X'.cells, z ∈ X.cells ∨ H z = none) → X'.es = X.es → MoveAt K H' t e → Q (.ref t) H'
def spMove (P : Program) (w : World) (K : PySem.W.Frag) (SC MCl : Addr) : Sp := fun vs H Q _ => ∃ (a sa : Addr) (x : Int) (X : MC) (ps : List Stp) (M M' : Mac) (s : Sta) (c : Int) (b : Bld), vs = [.ref a, .ref sa, .int x] ∧ MacAt P w K SC MCl H a X ps M ∧ StAt K H sa ps s ∧ M.controls.length < 100000 ∧ M.anchors.length < 100000 ∧
  (∀ l ∈ M.members, l.length < 100000) ∧ locate (moduliOf ps).1 M (adv ps s x).2 = some (M', c, b) ∧ MovQ P w K SC MCl H a X ps M' ((adv ps s x).1, c, b) Q
section
variable {P : Program} {w : World} {K : PySem.W.Frag} {mg : Str → Option Value} {base : Heap} {SC MCl : Addr}
abbrev NMv : List Str := ["self", "state", "number", "given", "state_behind", "control", "blend"]
theorem scMove : FnScope NMv ["self", "state", "number"] (defScope (mcM 2)) := ⟨rfl, rfl, rfl, by decide +kernel, rfl, by decide +kernel, by decide +kernel⟩
theorem ok_move {f fL : Addr} {fd fdL : FuncData} (F : Fun K "move" "Machine.move" (mcM 2) f fd) (T : McT K MCl) (CA : Cal P w K mg base CX0 3 "advance" ["chain", "state", "number"] (spAdv K)) (GL : FnOk P w K mg base CX0 5 fL fdL ["self", "state"] (spLocate P w K SC MCl)) (bL : Binds K fdL ["self", "state"] []) (mL : Meth K MCl "locate" fL) :
    FnOk P w K mg base CX0 6 f fd ["self", "state", "number"] (spMove P w K SC MCl) := by
  refine F.ok scMove (fun vs H Q E h => ?_) (fun cdv A outer s H vs Q E hr h => ?_)
  · obtain ⟨a, sa, x, X, ps, M, M', st, c, b, rfl, _⟩ := h
    rfl
  · obtain ⟨a, sa, x, X, ps, M, M', st, c, b, rfl, hM, hst, hcl, hal, hml, hm, q⟩ := h
    have nd := scMove.nd
    have hr3 : Room 3 _ := hr.mono (by decide)
    refine ⟨_, pss_cons (ps_asg (pe_cal CA hr3 pass0 (pa_cons (pe_fld (pv 0) rfl) (pa_cons (pv 1) (pa_cons (pv 2) pa_nil)))) (pg_tup rfl (pgs_cons (pg_name (i := 3) nd rfl (Or.inl rfl)) (pgs_cons (pg_name (i := 4) nd rfl (Or.inl rfl)) pgs_nil))))
      (pss_cons (ps_asg (pe_meth (pv 0) T.cl mL GL hr bL .nil pass0 (pa_cons (pv 4) pa_nil)) (pg_tup rfl (pgs_cons (pg_name (i := 5) nd rfl (Or.inl rfl)) (pgs_cons (pg_name (i := 6) nd rfl (Or.inl rfl)) pgs_nil))))
      (pss_one (ps_ret (pe_tup (pa_cons (pv 3) (pa_cons (pv 5) (pa_cons (pv 6) pa_nil))))))), ?_⟩
    obtain ⟨dx, hi⟩ := hM.ins
    obtain ⟨row, es, hrow⟩ := hst
    have ea := adv_ok hM.ok.1 row x
    rw [es, ea] at hm q
    refine ⟨_, rfl, a, MCl, dx, _, _, rfl, hi, T.cl, T.nc, rfl, _, rfl, _, rfl, X.c, sa, x, ps, row, rfl, hM.chain, hM.ok.1, hM.ok.2, hrow, fun t g a' H1 s1 ht hg ha' => ?_⟩
    refine ⟨t, _, rfl, ht, rfl, _, _, rfl, _, _, rfl, rfl, ?_⟩
    refine ⟨_, rfl, a, dx, _, rfl, s1 _ _ hi, rfl, _, rfl, a, a', X, ps, M, M', _, c, b, rfl, hM.same s1, ⟨_, rfl, ha'⟩, hcl, hal, hml, hm, fun t2 bl H2 X2 hM2 fr2 hc2 he2 ht2 hb2 => ?_⟩
    refine ⟨t2, _, rfl, ht2, rfl, _, _, rfl, _, _, rfl, rfl, _, rfl, _, rfl, _, rfl, (by show 3 ≤ sizeLine; decide), fun t3 ht3 => ?_⟩
    have fc := fch_of (hM.same s1) fr2
    have s3 := same_upd (o := .tup [V.ref g, .int c, .ref bl]) (Same.refl H2) ht3
    refine q t3 _ X2 (hM2.same s3) (fun z o hz hn => s3 _ _ (fr2 z o (s1 _ _ hz) hn)) (fun z hz => (hc2 z hz).imp id fun h => ?_) he2 ⟨g, bl, sqt_new, sqt_same s3 (sqt_fch fc hg), hb2.same s3⟩
    cases y : H z with
    | none => rfl
    | some o => rw [s1 _ _ y] at h; cases h
end
end FC
set_option Elab.async false
set_option linter.all false
/-! The machine in plain Lean: the rows of moves, and the walk over the anchors. -/
namespace FC
abbrev Mov := List Int × Int × Bld
def macOk (M : Mac) : Bool := decide (M.controls.length < 100000) && (decide (M.anchors.length < 100000) && M.members.all fun l => decide (l.length < 100000))
def mvStep (ps : List Stp) (ms : List Int) (s : Sta) (q : Mac × List Mov) (x : Int) : Option (Mac × List Mov) := do
  guardO (macOk q.1)
  let r ← locate ms q.1 (adv ps s x).2
  pure (r.1, q.2 ++ [((adv ps s x).1, r.2.1, r.2.2)])
def upto (n : Int) : List Int := (List.range n.toNat).map fun (i : Nat) => ((i : Nat) : Int)
def moveRow (ps : List Stp) (ms : List Int) (s : Sta) (xs : List Int) (M : Mac) : Option (Mac × List Mov) := xs.foldlM (mvStep ps ms s) (M, [])
def machineLoop (ps : List Stp) (ms : List Int) (m : Int) : Nat → Mac → Option Mac
  | 0, _ => none
  | n + 1, M => match M.anchors[M.moves.length]? with
    | none => some M
    | some s => do
      let q ← moveRow ps ms s (upto (2 * m)) M
      guardO (decide (M.moves.length < 100000))
      machineLoop ps ms m n { q.1 with moves := q.1.moves ++ [q.2] }
def mac0 : Mac := ⟨[], [], [], [], []⟩
def machine (fuel : Nat) (ps : List Stp) : Option Mac := do
  let q ← locate (moduliOf ps).1 mac0 (startM ps)
  machineLoop ps (moduliOf ps).1 (moduliOf ps).2 fuel q.1
theorem upto_get {n : Int} {i : Nat} (h : i < n.toNat) : (upto n)[i]? = some (i : Int) := by
  unfold upto
  rw [List.getElem?_map, List.getElem?_range h]
  rfl
theorem upto_len (n : Int) : (upto n).length = n.toNat := by
  unfold upto
  rw [List.length_map, List.length_range]
end FC
set_option Elab.async false
set_option linter.all false
set_option maxRecDepth 100000
set_option maxHeartbeats 4000000
/-! Machine.__init__. -/
namespace FC
open PySem PySem.Spec PyProof.Rows L2
/-- .., e.f, .. = -/
def gFld (ta : TE) (K : PySem.W.Frag) (f : Str) : TG := fun v σ H Q => ta σ H fun x H1 => ∃ a C dx fs, x = .ref a ∧ H1 a = some (.ins C dx fs) ∧ Cls K C ∧ NoAttr K C f ∧ fs.length < 1000 ∧ Q σ (upd H1 a (.ins C dx (putF f v fs)))
theorem pg_fld {X : Cx} {o : Expr} {f : Str} {pos : Pos} {ta : TE} (ho : PE X o ta)
    (ha : ∀ v, assign (.Attribute o f pos) X.env v = (do
      let ov ← holding [v] (eval o X.env)
      standAt pos.atName
      holding [v, ov] (setAttr ov f v)
      release [v, ov] []) := by intro _; rfl) : PG X (.Attribute o f pos) (gFld ta X.K f) := by
  refine ⟨fun pins s σ H v u Q I r h => ?_⟩
  rw [ha]
  refine wpAny_bind (wpAny_holding (thn (ho.run pins s σ H _ I h) fun ov s1 ⟨x, H1, I1, r1, a, C, dx, fs, ex, ea, c, n, l, q⟩ => ?_))
  subst ex
  obtain rfl : ov = Value.ref a := r1
  refine wpAny_bind (wpAny_standAt (wpAny_bind (wpAny_holding ?_)))
  refine setattr_ok I1 ea c n l r fun s3 I3 => wpAny_release ⟨σ, _, I3, q⟩
section
variable {P : Program} {w : World} {K : PySem.W.Frag} {mg : Str → Option Value} {base : Heap} {SC MCl : Addr} {H H' : Hp} {a d : Addr} {X : MC} {ps : List Stp} {M : Mac}
/-- a place outside of it changes -/
theorem mac_off (h : MacAt P w K SC MCl H a X ps M) (o : Och d H H') (n : d ∉ X.cells) : MacAt P w K SC MCl H' a X ps M := by
  have ne : ∀ z ∈ X.cells, z ≠ d := fun z hz e => n (by rw [← e]; exact hz)
  obtain ⟨⟨dx, h1⟩, h2, h3, ⟨om, h4⟩, h5, ⟨xs, h6, h7, h8⟩, ⟨h9, h10, h11⟩, ⟨h12, h13, h14⟩, ⟨h15, h16, h17⟩, ⟨h18, h19, h20⟩, h21, h22⟩ := h
  exact ⟨⟨dx, o.at_ h1 id⟩, stps_och o h2, h3, ⟨om, o.at_ h4 id⟩, h5, ⟨xs, nd_och o (ne _ (cells_mem.mpr (.inl rfl))) h6, h7, h8⟩,
    ⟨o.off _ _ (ne _ (cells_mem.mpr (.inr (.inl rfl)))) h9, h10, fun i p S e1 e2 => span_och o (ne _ (cells_mem.mpr (.inr (.inr (.inr (.inr (.inr (.inl (List.mem_map.mpr ⟨p, List.mem_of_getElem? e1, rfl⟩))))))))) (h11 i p S e1 e2)⟩,
    ⟨o.off _ _ (ne _ (cells_mem.mpr (.inr (.inr (.inl rfl))))) h12, h13, fun i b st e1 e2 => st_och o (h14 i b st e1 e2)⟩,
    ⟨o.off _ _ (ne _ (cells_mem.mpr (.inr (.inr (.inr (.inl rfl)))))) h15, h16, fun i b l e1 e2 => o.off _ _ (ne _ (cells_mem.mpr (.inr (.inr (.inr (.inr (.inr (.inr (List.mem_of_getElem? e1)))))))))  (h17 i b l e1 e2)⟩,
    ⟨o.off _ _ (ne _ (cells_mem.mpr (.inr (.inr (.inr (.inr (.inl rfl))))))) h18, h19, fun i b l e1 e2 => moves_och o (h20 i b l e1 e2)⟩, h21, h22⟩
/-- a row of moves more -/
theorem mac_moves (h : MacAt P w K SC MCl H a X ps M) {D : Addr} {row : List Mov} (hD : MovesAt K H D row) (e : H' = upd H X.mv (.lst (X.es.map V.ref ++ [V.ref D]))) :
    MacAt P w K SC MCl H' a { X with es := X.es ++ [D] } ps { M with moves := M.moves ++ [row] } := by
  have ap := apart_of h.apart
  obtain ⟨⟨dx, h1⟩, h2, h3, ⟨om, h4⟩, h5, ⟨xs, h6, h7, h8⟩, ⟨h9, h10, h11⟩, ⟨h12, h13, h14⟩, ⟨h15, h16, h17⟩, ⟨h18, h19, h20⟩, h21, h22⟩ := h
  have o : Och X.mv H H' := ⟨by rw [e]; exact OffD.upd (fun _ _ _ h => h), ⟨_, h18, True.intro⟩⟩
  refine ⟨⟨dx, o.at_ h1 id⟩, stps_och o h2, h3, ⟨om, o.at_ h4 id⟩, h5, ⟨xs, nd_och o ap.ct_mv h6, h7, h8⟩,
    ⟨o.off _ _ ap.sp_mv h9, h10, fun i p S e1 e2 => span_och o (fun z => ap.mv_ss (by rw [← z]; exact List.mem_map.mpr ⟨p, List.mem_of_getElem? e1, rfl⟩)) (h11 i p S e1 e2)⟩,
    ⟨o.off _ _ ap.an_mv h12, h13, fun i b st e1 e2 => st_och o (h14 i b st e1 e2)⟩,
    ⟨o.off _ _ ap.mb_mv h15, h16, fun i b l e1 e2 => o.off _ _ (fun z => ap.mv_ms (by rw [← z]; exact List.mem_of_getElem? e1)) (h17 i b l e1 e2)⟩,
    ⟨?_, by rw [List.length_append, List.length_append, h19]; rfl, fun i b l e1 e2 => ?_⟩, h21, h22⟩
  · show H' X.mv = some (.lst ((X.es ++ [D]).map V.ref))
    rw [e, upd_same, List.map_append]
    rfl
  · have e1 : (X.es ++ [D])[i]? = some b := e1
    have e2 : (M.moves ++ [row])[i]? = some l := e2
    rcases get_snoc e1 with ⟨l1, e1⟩ | ⟨l1, e3⟩
    · rw [List.getElem?_append_left (by omega)] at e2
      exact moves_och o (h20 i b l e1 e2)
    · rw [List.getElem?_append_right (by omega), l1, h19, Nat.sub_self] at e2
      obtain rfl : row = l := Option.some.inj e2
      rw [← e3]
      exact moves_och o hD
end
theorem stps_off {K : PySem.W.Frag} {H : Hp} {a : Addr} {ps : List Stp} {C dx c : Addr} {fs : List (Str × V)} {G : Hp} (o : OffD a H G) (hi : H a = some (.ins C dx fs)) (h : StpsAt K H c ps) : StpsAt K G c ps := by
  refine stps_frm (L := [a]) (fun b ob hb hn => o b ob (fun z => hn (by rw [z]; exact List.mem_singleton.mpr rfl)) hb) (fun b hb ys => ?_) h
  rw [List.mem_singleton.mp hb, hi]
  exact ⟨(fun z => nomatch z), (fun o z => nomatch z)⟩
theorem fld_step {G : Hp} {a x : Addr} {o u u' : HO} (hG : G a = some u) (hx : G x = none) {G' : Hp} (e : G' = upd (upd G x o) a u') : G' a = some u' ∧ G' x = some o ∧ OffD a G G' ∧ upd G x o a = some u := by
  have n : x ≠ a := fun z => by rw [z, hG] at hx; cases hx
  refine ⟨by rw [e, upd_same], by rw [e, upd_ne n, upd_same], fun b ob hb h => ?_, by rw [upd_ne n.symm]; exact hG⟩
  rw [e, upd_ne hb, upd_ne (ne_of_none h hx)]
  exact h
theorem Fch.refl (H : Hp) : Fch H H := fun _ _ h _ => h
theorem Fch.trans {H H1 H2 : Hp} (x : Fch H H1) (y : Fch H1 H2) : Fch H H2 := fun a o h n => y a o (x a o h n) n
theorem Fch.of {H H' : Hp} (s : Same H H') : Fch H H' := fun a o h _ => s a o h
theorem Och.fch {d : Addr} {H H' : Hp} (s : Och d H H') : Fch H H' := fun _ _ h n => s.at_ h n
theorem fch_upd {H H1 : Hp} {d : Addr} {o u : HO} (x : Fch H H1) (h : H1 d = some u) (c : Ck u) : Fch H (upd H1 d o) := fun a ob hb n => by
  have h1 := x a ob hb n
  rw [upd_ne (fun z => by rw [z, h] at h1; exact n (by rw [← Option.some.inj h1]; exact c))]
  exact h1
theorem bld_fch {K : PySem.W.Frag} {H H' : Hp} {a : Addr} {b : Bld} (s : Fch H H') (h : BldAt K H a b) : BldAt K H' a b := by
  obtain ⟨d, h1, ⟨o, e⟩, dd⟩ := h
  exact ⟨d, sqt_fch s h1, ⟨o, s _ _ e id⟩, dd⟩
theorem iteF' {p q : Prop} {b : Bool} (h : b = false) (x : q) : if b = true then p else q := by rw [h]; exact x
theorem iteT' {p q : Prop} {b : Bool} (h : b = true) (x : p) : if b = true then p else q := by rw [h]; exact x
def spMacI (P : Program) (w : World) (K : PySem.W.Frag) (SC MCl : Addr) : Sp := fun vs H Q _ => ∃ (a c dx : Addr) (ps : List Stp) (fuel : Nat) (M : Mac), vs = [.ref a, .ref c] ∧ H a = some (.ins MCl dx []) ∧ StpsAt K H c ps ∧ ((∀ p ∈ ps, p.ok) ∧ ps.length ≤ 4) ∧ machine fuel ps = some M ∧
  ∀ H' X, MacAt P w K SC MCl H' a X ps M → OffD a H H' → (∀ z ∈ X.cells, H z = none) → Q .non H'
section
variable {P : Program} {w : World} {K : PySem.W.Frag} {mg : Str → Option Value} {base : Heap} {SC MCl : Addr}
abbrev NMi : List Str := ["self", "chain", "state", "number"]
theorem scMacI : FnScope NMi ["self", "chain"] (defScope (mcM 0)) := ⟨rfl, rfl, rfl, by decide +kernel, rfl, by decide +kernel, by decide +kernel⟩
theorem ok_macI {f fL fM : Addr} {fd fdL fdM : FuncData} (F : Fun K "__init__" "Machine.__init__" (mcM 0) f fd) (T : McT K MCl) (B : Blt mg) (CM : Cal P w K mg base CX0 2 "moduli_of" ["chain"] (spModuliOf K)) (CS : Cal P w K mg base CX0 1 "start" ["chain"] (spStartP K))
    (GL : FnOk P w K mg base CX0 5 fL fdL ["self", "state"] (spLocate P w K SC MCl)) (bL : Binds K fdL ["self", "state"] []) (mL : Meth K MCl "locate" fL) (GM : FnOk P w K mg base CX0 6 fM fdM ["self", "state", "number"] (spMove P w K SC MCl)) (bM : Binds K fdM ["self", "state", "number"] []) (mM : Meth K MCl "move" fM) :
    FnOk P w K mg base CX0 7 f fd ["self", "chain"] (spMacI P w K SC MCl) := by
  refine F.ok scMacI (fun vs H Q E h => ?_) (fun cdv A outer s H vs Q E hr h => ?_)
  · obtain ⟨a, c, dx, ps, fuel, M, rfl, _⟩ := h
    rfl
  · obtain ⟨a, c, dx, ps, fuel, M, rfl, hi, hc, hok, hm, q⟩ := h
    have nd := scMacI.nd
    have hr1 : Room 1 _ := hr.mono (by decide)
    have hr2 : Room 2 _ := hr.mono (by decide)
    have hr5 : Room 5 _ := hr.mono (by decide)
    refine ⟨_, pss_cons (ps_fld (pv 0) (pv 1) rfl)
      (pss_cons (ps_asg (pe_cal CM hr2 pass0 (pa_cons (pv 1) pa_nil)) (pg_tup rfl (pgs_cons (pg_fld (pv 0)) (pgs_cons (pg_fld (pv 0)) pgs_nil))))
      (pss_cons (ps_fld (pv 0) FN.pe_nnew rfl)
      (pss_cons (ps_fld (pv 0) (pe_lst pa_nil) rfl)
      (pss_cons (ps_fld (pv 0) (pe_lst pa_nil) rfl)
      (pss_cons (ps_fld (pv 0) (pe_lst pa_nil) rfl)
      (pss_cons (ps_fld (pv 0) (pe_lst pa_nil) rfl)
      (pss_cons (ps_expr (pe_meth (pv 0) T.cl mL GL hr5 bL .nil pass0 (pa_cons (pe_cal CS hr1 pass0 (pa_cons (pv 1) pa_nil)) pa_nil)))
      (pss_one (ps_while PassesOwn.never (pt_cmp (pc_lt (pe_callB call_len (by rfl) B.len PySem.boot_len (pa_cons (pe_fld (pv 0) rfl) pa_nil)) (pe_callB call_len (by rfl) B.len PySem.boot_len (pa_cons (pe_fld (pv 0) rfl) pa_nil))))
        (pss_cons (ps_set (i := 2) nd rfl (Or.inr rfl) (pe_ix (r := rIxL K) ix_list (pe_fld (pv 0) rfl) (pe_callB call_len (by rfl) B.len PySem.boot_len (pa_cons (pe_fld (pv 0) rfl) pa_nil)) (fun _ _ => rfl)))
        (pss_one (ps_expr (pe_bm PySem.F.plainAttrs_list PySem.F.slot_list_append PySem.F.type_list_append mt_append (pe_fld (pv 0) rfl) (pa_cons (pe_frz
          (pe_lc (own := [("number", 3)]) (g := gName 3) (tt := tYes) (te := tMeth MCl "move" (spMove P w K SC MCl) [] E0 (tVar 0) (tCons (tVar 2) (tCons (tVar 3) tNil))) (by rfl) nd (pi_range1 (by rfl) B.range (pa_cons (pe_op op_mulW pe_int (pe_fld (pv 0) rfl)) pa_nil)) (blkOk_by (own := [("number", 3)]) (N := NMi) (sc := defScope (mcM 0)) (by decide +kernel)) (fun _ _ _ _ _ => pg_name (i := 3) nd rfl (Or.inl rfl))
            (fun _ _ _ _ _ => pts_nil) (fun _ _ _ _ _ => pe_meth (pv 0) T.cl mM GM hr bM .nil pass0 (pa_cons (pv 2) (pa_cons (pv 3) pa_nil))))) pa_nil)))))))))))))), ?_⟩
    have eo : ∀ {G G' : Hp} {o : HO}, OffD a G G' → OffD a G (upd G' a o) := fun h => h.upd
    refine ⟨_, rfl, _, rfl, a, MCl, dx, [], rfl, hi, T.cl, T.nc, (by show 0 < 1000; decide), ?_⟩
    have hac : ∀ {G : Hp}, OffD a H G → StpsAt K G c ps := fun o => stps_off o hi hc
    obtain ⟨H1, e1⟩ : ∃ H1, H1 = upd H a (.ins MCl dx (putF "chain" (.ref c) [])) := ⟨_, rfl⟩
    have o1 : OffD a H H1 := by rw [e1]; exact OffD.upd (fun _ _ _ h => h)
    have i1 : H1 a = some (.ins MCl dx [("chain", .ref c)]) := by rw [e1]; exact upd_same
    refine h_swap e1 ?_
    have hle := hok.2
    refine ⟨_, rfl, c, ps, rfl, hac o1, hok.1, by omega, fun t md H2 s2 ht hmd => ?_⟩
    have i2 := s2 _ _ i1
    have o2 : OffD a H H2 := o1.trans (OffD.same s2)
    obtain ⟨om, hmd⟩ := hmd
    have nma : md ≠ a := ne_of hmd i2 (fun z => nomatch z)
    refine ⟨t, _, rfl, ht, rfl, _, _, rfl, _, rfl, a, MCl, dx, _, rfl, i2, T.cl, T.nmd, (by show 1 < 1000; decide), _, _, rfl, _, rfl, a, MCl, dx, _, rfl, upd_same, T.cl, T.nm, (by show 2 < 1000; decide), rfl, ?_⟩
    obtain ⟨H3, e3⟩ : ∃ H3, H3 = upd (upd H2 a (.ins MCl dx (putF "moduli" (.ref md) [("chain", .ref c)]))) a (.ins MCl dx (putF "modulus" (.int (moduliOf ps).2) (putF "moduli" (.ref md) [("chain", .ref c)]))) := ⟨_, rfl⟩
    refine h_swap e3 ?_
    have o3 : OffD a H H3 := by rw [e3]; exact (o2.upd).upd
    have i3 : H3 a = some (.ins MCl dx [("chain", .ref c), ("moduli", .ref md), ("modulus", .int (moduliOf ps).2)]) := by rw [e3]; exact upd_same
    have m3 : H3 md = some (.frz om (.lst ((moduliOf ps).1.map V.int))) := by rw [e3, upd_ne nma, upd_ne nma]; exact hmd
    intro ct nct
    obtain ⟨H4, e4⟩ : ∃ H4, H4 = upd (upd H3 ct (FN.NHO P w ct [])) a (.ins MCl dx [("chain", .ref c), ("moduli", .ref md), ("modulus", .int (moduliOf ps).2), ("controls", .ref ct)]) := ⟨_, rfl⟩
    obtain ⟨i4, ct4, f4, j4⟩ := fld_step i3 nct e4
    refine ⟨_, rfl, a, MCl, dx, _, rfl, j4, T.cl, T.nct, (by show 3 < 1000; decide), ?_⟩
    refine h_swap e4 ?_
    refine ⟨(by show 0 ≤ sizeLine; omega), fun sp nsp => ?_⟩
    obtain ⟨H5, e5⟩ : ∃ H5, H5 = upd (upd H4 sp (.lst [])) a (.ins MCl dx [("chain", .ref c), ("moduli", .ref md), ("modulus", .int (moduliOf ps).2), ("controls", .ref ct), ("spans", .ref sp)]) := ⟨_, rfl⟩
    obtain ⟨i5, sp5, f5, j5⟩ := fld_step i4 nsp e5
    refine ⟨_, rfl, a, MCl, dx, _, rfl, j5, T.cl, T.nsp, (by show 4 < 1000; decide), ?_⟩
    refine h_swap e5 ?_
    refine ⟨(by show 0 ≤ sizeLine; omega), fun an nan => ?_⟩
    obtain ⟨H6, e6⟩ : ∃ H6, H6 = upd (upd H5 an (.lst [])) a (.ins MCl dx [("chain", .ref c), ("moduli", .ref md), ("modulus", .int (moduliOf ps).2), ("controls", .ref ct), ("spans", .ref sp), ("anchors", .ref an)]) := ⟨_, rfl⟩
    obtain ⟨i6, an6, f6, j6⟩ := fld_step i5 nan e6
    refine ⟨_, rfl, a, MCl, dx, _, rfl, j6, T.cl, T.nan, (by show 5 < 1000; decide), ?_⟩
    refine h_swap e6 ?_
    refine ⟨(by show 0 ≤ sizeLine; omega), fun mb nmb => ?_⟩
    obtain ⟨H7, e7⟩ : ∃ H7, H7 = upd (upd H6 mb (.lst [])) a (.ins MCl dx [("chain", .ref c), ("moduli", .ref md), ("modulus", .int (moduliOf ps).2), ("controls", .ref ct), ("spans", .ref sp), ("anchors", .ref an), ("members", .ref mb)]) := ⟨_, rfl⟩
    obtain ⟨i7, mb7, f7, j7⟩ := fld_step i6 nmb e7
    refine ⟨_, rfl, a, MCl, dx, _, rfl, j7, T.cl, T.nmb, (by show 6 < 1000; decide), ?_⟩
    refine h_swap e7 ?_
    refine ⟨(by show 0 ≤ sizeLine; omega), fun mv nmv => ?_⟩
    obtain ⟨H8, e8⟩ : ∃ H8, H8 = upd (upd H7 mv (.lst [])) a (.ins MCl dx [("chain", .ref c), ("moduli", .ref md), ("modulus", .int (moduliOf ps).2), ("controls", .ref ct), ("spans", .ref sp), ("anchors", .ref an), ("members", .ref mb), ("moves", .ref mv)]) := ⟨_, rfl⟩
    obtain ⟨i8, mv8, f8, j8⟩ := fld_step i7 nmv e8
    refine ⟨_, rfl, a, MCl, dx, _, rfl, j8, T.cl, T.nmv, (by show 7 < 1000; decide), ?_⟩
    refine h_swap e8 ?_
    have off : ∀ {G : Hp} {z : Addr} {u o : HO}, G a = some u → (∀ C d l, o ≠ .ins C d l) → u = .ins MCl dx [] ∨ True → G z = some o → (∃ l, u = .ins MCl dx l) → z ≠ a := fun hGa ho _ hz ⟨l, hu⟩ e => by
      rw [e, hGa] at hz
      exact ho _ _ _ ((Option.some.inj hz).symm.trans hu)
    have ca : ct ≠ a := fun z => by rw [z, i3] at nct; cases nct
    have sa : sp ≠ a := fun z => by rw [z, i4] at nsp; cases nsp
    have aa : an ≠ a := fun z => by rw [z, i5] at nan; cases nan
    have ba : mb ≠ a := fun z => by rw [z, i6] at nmb; cases nmb
    have va : mv ≠ a := fun z => by rw [z, i7] at nmv; cases nmv
    have ct5 := f5 _ _ ca ct4
    have ct6 := f6 _ _ ca ct5
    have ct7 := f7 _ _ ca ct6
    have ct8 := f8 _ _ ca ct7
    have sp6 := f6 _ _ sa sp5
    have sp7 := f7 _ _ sa sp6
    have sp8 := f8 _ _ sa sp7
    have an7 := f7 _ _ aa an6
    have an8 := f8 _ _ aa an7
    have mb8 := f8 _ _ ba mb7
    have o38 : OffD a H3 H8 := ((((f4.trans f5).trans f6).trans f7).trans f8)
    have o8 : OffD a H H8 := o3.trans o38
    have md8 := o38 _ _ nma m3
    have h0 : ∀ {G : Hp} {z : Addr}, OffD a H G → z ≠ a → G z = none → H z = none := fun {G z} o n hz => by
      cases y : H z with
      | none => rfl
      | some u => rw [o z u n y] at hz; cases hz
    have hM0 : MacAt P w K SC MCl H8 a ⟨c, md, (moduliOf ps).2, ct, sp, an, mb, mv, [], [], [], []⟩ ps mac0 := by
      refine ⟨⟨dx, i8⟩, hac o8, hok, ⟨om, md8⟩, rfl, ⟨[], ⟨ct8, fun x hx => nomatch hx⟩, rfl, fun i st e => ?_⟩, ⟨sp8, rfl, fun i p S e => ?_⟩, ⟨an8, rfl, fun i b st e => ?_⟩, ⟨mb8, rfl, fun i b st e => ?_⟩, ⟨mv8, rfl, fun i b st e => ?_⟩, ?_, rfl, rfl⟩
      · simp [mac0] at e
      · simp at e
      · simp at e
      · simp at e
      · simp at e
      · show [ct, sp, an, mb, mv].Nodup
        simp only [List.nodup_cons, List.mem_cons, List.not_mem_nil, or_false, not_or]
        exact ⟨⟨ne_of_none ct4 nsp, ne_of_none ct5 nan, ne_of_none ct6 nmb, ne_of_none ct7 nmv⟩, ⟨ne_of_none sp5 nan, ne_of_none sp6 nmb, ne_of_none sp7 nmv⟩, ⟨ne_of_none an6 nmb, ne_of_none an7 nmv⟩, ne_of_none mb7 nmv, id, List.nodup_nil⟩
    have hc0 : ∀ z ∈ (⟨c, md, (moduliOf ps).2, ct, sp, an, mb, mv, [], [], [], []⟩ : MC).cells, H z = none := fun z hz => by
      rcases cells_mem.mp hz with rfl | rfl | rfl | rfl | rfl | h | h
      · exact h0 o3 ca nct
      · exact h0 (o3.trans f4) sa nsp
      · exact h0 ((o3.trans f4).trans f5) aa nan
      · exact h0 (((o3.trans f4).trans f5).trans f6) ba nmb
      · exact h0 ((((o3.trans f4).trans f5).trans f6).trans f7) va nmv
      · cases h
      · cases h
    generalize (⟨c, md, (moduliOf ps).2, ct, sp, an, mb, mv, [], [], [], []⟩ : MC) = X0 at hM0 hc0
    unfold machine at hm
    obtain ⟨⟨M1, c1, b1⟩, hloc, hm⟩ := bnd_some.mp hm
    refine ⟨_, rfl, a, dx, _, rfl, i8, rfl, _, rfl, c, ps, rfl, hac o8, by omega, fun st0 H9 s9 hst => ⟨a, st0, X0, ps, mac0, M1, startM ps, c1, b1, rfl, hM0.same s9, ⟨[], (stOf_nil ps).symm, hst⟩, by decide, by decide, (fun l hl => nomatch hl), hloc, fun t1 bl H10 X1 hM1 fr1 hcl1 hes1 ht1 hb1 => ?_⟩⟩
    have frm : ∀ {G G' : Hp} {Y : MC}, OffD a H G → (∀ z ∈ Y.cells, H z = none) → Frm Y.cells G G' → OffD a H G' := fun {G G' Y} o hY f b ob hb h => f b ob (o b ob hb h) (fun z => by rw [hY b z] at h; cases h)
    have cel : ∀ {G : Hp} {Y Y' : MC}, OffD a H G → (∃ o, G a = some o) → (∀ z ∈ Y.cells, H z = none) → (∀ z ∈ Y'.cells, z ∈ Y.cells ∨ G z = none) → (∀ z ∈ Y'.cells, H z = none) := fun {G Y Y'} o ⟨oa, ha⟩ hY h z hz => by
      rcases h z hz with y | y
      · exact hY z y
      · exact h0 o (fun e => by rw [e, ha] at y; cases y) y
    have o9 : OffD a H H9 := o8.trans (OffD.same s9)
    refine ⟨fun m σ G => ∃ (M1 : Mac) (X1 : MC) (y z : Option V), σ = [some (.ref a), some (.ref c), y, z] ∧ MacAt P w K SC MCl G a X1 ps M1 ∧ machineLoop ps (moduliOf ps).1 (moduliOf ps).2 m M1 = some M ∧ OffD a H G ∧ (∀ z ∈ X1.cells, H z = none), ⟨fuel, M1, X1, _, _, rfl, hM1, hm, frm o9 hc0 fr1, cel o9 ⟨_, s9 _ _ i8⟩ hc0 hcl1⟩, ?_⟩
    clear hM1 hm fr1 hcl1 hes1 ht1 hb1 hloc
    rintro m σ G ⟨M1, X1, y, z, rfl, hM1, hm, oG, hX1⟩
    obtain ⟨dx1, j1⟩ := hM1.ins
    obtain ⟨v1, v2, v3⟩ := hM1.moves
    obtain ⟨a1, a2, a3⟩ := hM1.anchors
    refine ⟨_, rfl, a, MCl, dx1, _, _, rfl, j1, T.cl, T.nmv, rfl, _, _, rfl, .inl ⟨_, SqL.of v1, rfl⟩, ?_⟩
    refine ⟨_, rfl, a, MCl, dx1, _, _, rfl, j1, T.cl, T.nan, rfl, _, _, rfl, .inl ⟨_, SqL.of a1, rfl⟩, ?_⟩
    refine ⟨_, _, rfl, rfl, _, rfl, ?_⟩
    cases m with
    | zero => cases hm
    | succ n =>
      unfold machineLoop at hm
      cases hs : M1.anchors[M1.moves.length]? with
      | none =>
        rw [hs] at hm
        have hm : some M1 = some M := hm
        cases hm
        rw [List.getElem?_eq_none_iff] at hs
        have hd : ¬ (((X1.es.map V.ref).length : Nat) : Int) < (((X1.st.map V.ref).length : Nat) : Int) := by rw [List.length_map, List.length_map, a2, v2]; omega
        refine iteF' (decide_eq_false hd) ?_
        exact q G X1 hM1 oG hX1
      | some st =>
        rw [hs] at hm
        obtain ⟨⟨M2, row⟩, hrow, hm⟩ := bnd_some.mp hm
        obtain ⟨_, hg2, hm⟩ := bnd_some.mp hm
        have hg2 := grd_some.mp hg2
        have lt := get_lt hs
        have hd : (((X1.es.map V.ref).length : Nat) : Int) < (((X1.st.map V.ref).length : Nat) : Int) := by rw [List.length_map, List.length_map, a2, v2]; omega
        obtain ⟨sb, hsb⟩ : ∃ sb, X1.st[M1.moves.length]? = some sb := ⟨X1.st[M1.moves.length]'(by omega), List.getElem?_eq_getElem (by omega)⟩
        have hst := a3 _ sb st hsb hs
        refine iteT' (decide_eq_true hd) ?_
        refine ⟨_, fun σ' H' h => ⟨n, Nat.lt_succ_self n, h⟩, ?_⟩
        refine ⟨_, rfl, a, MCl, dx1, _, _, rfl, j1, T.cl, T.nan, rfl, _, rfl, a, MCl, dx1, _, _, rfl, j1, T.cl, T.nmv, rfl, _, _, rfl, .inl ⟨_, SqL.of v1, rfl⟩, X1.an, _, _, .ref sb, rfl, rfl, SqL.of a1, atI_nat (by rw [List.getElem?_map, List.length_map, v2, hsb]; rfl), ?_⟩
        refine ⟨_, rfl, a, MCl, dx1, _, _, rfl, j1, T.cl, T.nmv, rfl, .inl ⟨rfl, _, SqL.of v1⟩, ?_⟩
        obtain ⟨k1, k2, k3, k4⟩ := moduli_le hok.1
        have hmm : X1.m = (moduliOf ps).2 := hM1.modulus
        have hm81 : (moduliOf ps).2 ≤ 81 := by
          have h1 : (3 : Nat) ^ ps.length ≤ 3 ^ 4 := Nat.pow_le_pow_right (by decide) hok.2
          have h2 : ((3 ^ ps.length : Nat) : Int) ≤ ((3 ^ 4 : Nat) : Int) := Int.ofNat_le.mpr h1
          have h3 : ((3 ^ ps.length : Nat) : Int) = (3 : Int) ^ ps.length := by exact_mod_cast rfl
          have h4 : ((3 ^ 4 : Nat) : Int) = 81 := rfl
          omega
        have b2000 : (moduliOf ps).2.natAbs < 2 ^ 2000 := pow3_lt (by omega) k1 k2
        have t2000 : (2 : Int).natAbs < 2 ^ 2000 := Nat.lt_of_lt_of_le (by decide : 2 < 2 ^ 2) (Nat.pow_le_pow_right (by decide) (by decide))
        refine ⟨_, rfl, a, MCl, dx1, _, _, rfl, j1, T.cl, T.nm, rfl, 2, X1.m, rfl, rfl, by rw [hmm]; exact wide_mul t2000 b2000 (by decide) (by decide) (by decide), _, rfl, by clear b2000 t2000; omega, by clear b2000 t2000; omega, fun D hD => ?_⟩
        have hDc : D ∉ X1.cells := fun z => by
          obtain ⟨o, ho, _⟩ := mac_ck hM1 D z
          rw [hD] at ho
          cases ho
        have hDa : D ≠ a := fun z => by rw [z, j1] at hD; cases hD
        have hDH : H D = none := h0 oG hDa hD
        refine lc_it (walk_range (lo := 0) (n := (2 * X1.m).toNat)) (fun i G' => ∃ (Mi : Mac) (Xi : MC) (ri : List Mov) (bs : List Addr), ((upto (2 * (moduliOf ps).2)).take i).foldlM (mvStep ps (moduliOf ps).1 st) (M1, []) = some (Mi, ri) ∧ MacAt P w K SC MCl G' a Xi ps Mi ∧ G' D = some (.lst (bs.map V.ref)) ∧ D ∉ Xi.cells ∧ bs.length = ri.length ∧ ri.length = i ∧ (∀ (j : Nat) (b : Addr) (e : Mov), bs[j]? = some b → ri[j]? = some e → MoveAt K G' b e) ∧ OffD a H G' ∧ (∀ z ∈ Xi.cells, H z = none) ∧ Xi.es = X1.es ∧ StAt K G' sb ps st ∧ Fch G G') ?_ (fun _ _ _ _ => True.intro) ?_ ?_
        · have s1 := same_upd (o := .lst []) (Same.refl G) hD
          exact ⟨M1, X1, [], [], rfl, hM1.same s1, upd_same, hDc, rfl, rfl, fun j b e h => (nomatch (show (none : Option Addr) = some b from by simpa using h)), oG.trans (OffD.same s1), hX1, rfl, st_same s1 hst, Fch.of s1⟩
        · rintro i x G1 G2 hi ⟨Mi, Xi, ri, bs, hf, hMi, hDi, hDn, hbl, hrl, hat, oi, hXi, hes, hst1, fci⟩ ⟨rfl, rfl⟩
          obtain ⟨⟨M2', r2⟩, hst2, hf2⟩ := foldM_step hrow (upto_get (by rw [← hmm]; exact hi)) hf
          unfold mvStep at hst2
          obtain ⟨_, hg, hst2⟩ := bnd_some.mp hst2
          obtain ⟨⟨Ml, cl, bl⟩, hlo, hst2⟩ := bnd_some.mp hst2
          cases Option.some.inj hst2
          have hg := grd_some.mp hg
          unfold macOk at hg
          rw [Bool.and_eq_true, Bool.and_eq_true, decide_eq_true_eq, decide_eq_true_eq, List.all_eq_true] at hg
          obtain ⟨g1, g2, g3⟩ := hg
          obtain ⟨dxi, ji⟩ := hMi.ins
          refine ⟨rfl, ?_⟩
          have e0 : (0 : Int) + (i : Int) = i := Int.zero_add _
          refine ⟨_, rfl, a, dxi, _, rfl, ji, rfl, _, rfl, _, rfl, a, sb, (0 + i : Int), Xi, ps, Mi, Ml, st, cl, bl, rfl, hMi, hst1, g1, g2, fun l hl => of_decide_eq_true (g3 l hl), by rw [e0]; exact hlo, fun t4 H4 X' hM' fr4 hc4 he4 ht4 => ?_⟩
          rw [e0] at ht4
          have hD4 := fr4 D _ hDi hDn
          have nD4 : D ∉ X'.cells := fun z => by
            rcases hc4 D z with h | h
            · exact hDn h
            · rw [hDi] at h; cases h
          have fc := fch_of hMi fr4
          have oc : Och D H4 (upd H4 D (.lst (bs.map V.ref ++ [V.ref t4]))) := ⟨OffD.upd (fun _ _ _ h => h), ⟨_, hD4, True.intro⟩⟩
          have o4 : OffD a H H4 := frm oi hXi fr4
          refine ⟨_, hD4, ?_, Ml, X', _, bs ++ [t4], hf2, mac_off hM' oc nD4, by rw [upd_same, List.map_append]; rfl, nD4, by rw [List.length_append, List.length_append, hbl]; rfl, by rw [List.length_append, hrl]; rfl, fun j b e h1 h2 => ?_, fun b ob hb h => ?_, cel oi ⟨_, ji⟩ hXi hc4, by rw [he4, hes], st_och oc (st_fch fc hst1), (fci.trans fc).trans oc.fch⟩
          · rw [List.length_map, hbl, hrl, sizeLine_eq]
            clear b2000 t2000
            omega
          · have h2 : (ri ++ [((adv ps st (i : Int)).1, cl, bl)])[j]? = some e := h2
            rcases get_snoc h1 with ⟨l1, h1⟩ | ⟨l1, h3⟩
            · rw [List.getElem?_append_left (by omega)] at h2
              obtain ⟨g, bb, m1, m2, m3⟩ := hat j b e h1 h2
              exact ⟨g, bb, sqt_och oc (sqt_fch fc m1), sqt_och oc (sqt_fch fc m2), bld_och oc (bld_fch fc m3)⟩
            · rw [List.getElem?_append_right (by omega), l1, hbl, Nat.sub_self] at h2
              obtain rfl := Option.some.inj h2
              rw [← h3]
              obtain ⟨g, bb, m1, m2, m3⟩ := ht4
              exact ⟨g, bb, sqt_och oc m1, sqt_och oc m2, bld_och oc m3⟩
          · rw [upd_ne (ne_of_none h hDH)]
            exact o4 _ _ hb h
        · rintro G1 ⟨Mi, Xi, ri, bs, hf, hMi, hDi, hDn, hbl, hrl, hat, oi, hXi, hes, hst1, fci⟩
          have eT : (upto (2 * (moduliOf ps).2)).take (2 * X1.m).toNat = upto (2 * (moduliOf ps).2) := by rw [hmm]; exact List.take_of_length_le (Nat.le_of_eq (upto_len _))
          rw [eT] at hf
          obtain ⟨rfl, rfl⟩ : (Mi, ri).1 = M2 ∧ (Mi, ri).2 = row := by
            have : some (Mi, ri) = some (M2, row) := hf.symm.trans hrow
            cases this
            exact ⟨rfl, rfl⟩
          refine .inr ⟨D, _, rfl, hDi, True.intro, fun ob => ?_⟩
          have eD : upd G1 D (.frz ob (.lst (bs.map V.ref))) D = some (.frz ob (.lst (bs.map V.ref))) := upd_same
          have oc : Och D G1 (upd G1 D (.frz ob (.lst (bs.map V.ref)))) := ⟨OffD.upd (fun _ _ _ h => h), ⟨_, hDi, True.intro⟩⟩
          have hM3 := mac_off hMi oc hDn
          generalize upd G1 D (.frz ob (.lst (bs.map V.ref))) = G3 at eD oc hM3 ⊢
          obtain ⟨dxi, ji⟩ := hMi.ins
          have efs : Xi.fs = X1.fs := by
            have h1 := fci a _ j1 id
            rw [ji] at h1
            exact (HO.ins.inj (Option.some.inj h1)).2.2
          have emv : Xi.mv = X1.mv := by
            have h1 : Xi.fs[7]? = X1.fs[7]? := by rw [efs]
            have h2 : some (("moves" : Str), V.ref Xi.mv) = some (("moves" : Str), V.ref X1.mv) := h1
            exact V.ref.inj (Prod.mk.inj (Option.some.inj h2)).2
          obtain ⟨w1, w2, w3⟩ := hM3.moves
          have hD3 : MovesAt K G3 D ri := ⟨bs.map V.ref, ⟨ob, eD⟩, by rw [List.length_map, hbl], fun j v e h1 h2 => by
            rw [List.getElem?_map] at h1
            obtain ⟨b, hb, rfl⟩ := Option.map_eq_some_iff.mp h1
            obtain ⟨g, bb, m1, m2, m3⟩ := hat j b e hb h2
            exact ⟨b, rfl, g, bb, sqt_och oc m1, sqt_och oc m2, bld_och oc m3⟩⟩
          have hg2 := of_decide_eq_true hg2
          refine ⟨X1.mv, _, _, rfl, rfl, by rw [← emv]; exact w1, ?_, ?_⟩
          · rw [List.length_map, hes, v2, sizeLine_eq]
            clear b2000 t2000
            omega
          · refine ⟨_, { Xi with es := Xi.es ++ [D] }, _, _, rfl, mac_moves hM3 hD3 (by rw [emv]), hm, fun b ob hb h => ?_, fun z hz => hXi z hz⟩
            rw [upd_ne (fun z => ?_)]
            · exact oc.off _ _ (ne_of_none h hDH) (oi _ _ hb h)
            · have := hX1 X1.mv (cells_mem.mpr (.inr (.inr (.inr (.inr (.inl rfl))))))
              rw [z, this] at h
              cases h
end
end FC
set_option Elab.async false
set_option linter.all false
set_option maxRecDepth 100000
set_option maxHeartbeats 4000000
/-! setdefault with nested keys; what may not change, and lists of such; comprehensions over them. -/
namespace FN
open PySem PySem.Spec PyProof.Rows L2
def tNSetd (P : Program) (w : World) (td ty tx : TE) : TE := fun σ H Q => td σ H fun x H1 => ∃ a, x = .ref a ∧ (∃ xs, ND P w H1 a xs) ∧ ty σ H1 fun y H2 => tx σ H2 fun z H3 => ∃ b xs k, y = .ref b ∧ ND P w H3 a xs ∧ NKeyAt H3 k b ∧ xs.length < sizeLine ∧ (∀ v, atN xs k = some v → Q v H3) ∧ (atN xs k = none → Q z (upd H3 a (NHO P w a (putN xs k b z))))
section
variable {X : Cx} {o e f : Expr} {apos cpos : Pos} {td ty tx : TE}
theorem pe_nsetd (hu : RoomD X.A) (ho : PE X o td) (he : PE X e ty) (hf : PE X f tx) (m : M2 X o "setdefault" apos e f cpos) : PE X (.Call (.Attribute o "setdefault" apos) [e, f] [] cpos) (tNSetd X.prog X.w td ty tx) := by
  refine ⟨fun pins s σ H Q I h => ?_⟩
  refine wpAny_Call_method m.base m.few m.line PySem.F.plainAttrs_dict PySem.F.slot_dict_setdefault PySem.F.type_dict_setdefault (thn (ho.run pins s σ H _ I h) fun u s1 ⟨x, H1, I1, rx, a, ex, ⟨xs0, n0⟩, q1⟩ => ?_)
  subst ex
  obtain rfl : u = Value.ref a := rx
  obtain ⟨_, _, _, _, dd0⟩ := nd_of I1.hok n0
  refine ⟨dd0.typeIs, fun b q => ?_, ?_⟩
  · cases q
    obtain ⟨ob, _, _, h1, h2, _⟩ := dd0
    exact ⟨ob, h1, h2.2.1⟩
  · rw [m.trees]
    refine Calls.callWith_builtin rfl (Calls.evalArgs_plain (Calls.spliced_cons (thn (he.run pins s1 σ H1 _ I1 q1) fun iv s2 ⟨y, H2, I2, ry, q2⟩ =>
      Calls.spliced_cons (thn (hf.run pins s2 σ H2 _ I2 q2) fun fv s3 ⟨z, H3, I3, rz, b, xs, k, ey, n, kb, hl, q3, q4⟩ => Calls.spliced_nil ?_))))
    subst ey
    obtain rfl : iv = Value.ref b := ry
    obtain ⟨z1, hd, ys, rel, dd⟩ := nd_of I3.hok n
    have hz : ys.length ≤ sizeLine := by rw [← Paired.length rel]; exact z1
    have hv := rel.val k
    refine call_setdefault_heap (hsz := hz) (roomD (X := X) hu) (nkey_of I3.hok kb) hd dd (fun p hp => ?_) (fun hn h' dd' hs => ?_)
    · rw [hp] at hv
      cases q0 : atN xs k with
      | none => rw [q0] at hv; exact (show False from hv).elim
      | some v0 =>
        rw [q0] at hv
        exact ⟨v0, _, I3.tok _, hv, q3 v0 q0⟩
    · rw [hn] at hv
      cases q0 : atN xs k with
      | some v0 => rw [q0] at hv; exact (show False from hv).elim
      | none =>
        have hl2 : (putN xs k b z).length ≤ sizeLine := by have := length_putN xs k b z; omega
        have he : ∃ q, h'.get? a = some q := let ⟨q, _, _, hq, _⟩ := dd'; ⟨q, hq⟩
        exact ⟨z, _, d_write I3 (by rw [n.1]; exact True.intro) hs he (nho_ok hl2 hd (rel.put k rz) dd'), rz, q4 q0⟩
end
end FN
namespace FC
open PySem PySem.Spec PyProof.Rows L2
section
variable {X : Cx}
/-- before a statement, a place may be held still for good -/
theorem ps_frz {st : Stmt} {t : TS} (h : PS X st t) : PS X st (fun D σ H => t D σ H ∨ ∃ a u, H a = some u ∧ Mut (some u) ∧ ∀ o, t D σ (upd H a (.frz o u))) := by
  refine ⟨fun pins s σ H D I hw => ?_⟩
  rcases hw with q | ⟨a, u, hu, mu, q⟩
  · exact h.run pins s σ H D I q
  · obtain ⟨od, I2⟩ := I.lock hu mu
    exact h.run pins s σ _ D I2 (q od)
end
/-! ### what may not change -/
/-- tuples and what is held still for good -/
def Fzn : HO → Prop
  | .tup _ => True
  | .frz _ _ => True
  | _ => False
/-- .. stand -/
def Wk (H H' : Hp) : Prop := ∀ a o, H a = some o → Fzn o → H' a = some o
theorem Fch.wk {H H' : Hp} (s : Fch H H') : Wk H H' := fun a o h f => s a o h (fun c => by cases o <;> first | exact f | exact c)
theorem Wk.refl (H : Hp) : Wk H H := fun _ _ h _ => h
theorem Wk.trans {H H1 H2 : Hp} (x : Wk H H1) (y : Wk H1 H2) : Wk H H2 := fun a o h n => y a o (x a o h n) n
theorem Wk.of {H H' : Hp} (s : Same H H') : Wk H H' := fun a o h _ => s a o h
theorem Wk.upd {H H1 : Hp} {d : Addr} {o u : HO} (x : Wk H H1) (h : H1 d = some u) (c : ¬ Fzn u) : Wk H (upd H1 d o) := fun a ob hb n => by
  have h1 := x a ob hb n
  rw [upd_ne (fun z => by rw [z, h] at h1; exact c (by rw [Option.some.inj h1]; exact n))]
  exact h1
theorem Wk.off {H H' : Hp} {d : Addr} {u : HO} (o : OffD d H H') (h : H d = some u) (c : ¬ Fzn u) : Wk H H' := fun a ob hb n => o a ob (fun z => by rw [z, h] at hb; exact c (by rw [Option.some.inj hb]; exact n)) hb
theorem sqt_wk {K : PySem.W.Frag} {H H' : Hp} {a : Addr} {xs : List V} (s : Wk H H') (h : SqT K H a xs) : SqT K H' a xs := by
  rcases h with (h | ⟨o, h⟩) | h
  · exact .inl (.inl (s _ _ h True.intro))
  · exact .inl (.inr ⟨o, s _ _ h True.intro⟩)
  · exact .inr h
theorem vecf_wk {H H' : Hp} {a : Addr} {v : Vec} (s : Wk H H') (h : VecF H a v) : VecF H' a v := by
  obtain ⟨⟨o, e⟩, dd⟩ := h
  exact ⟨⟨o, s _ _ e True.intro⟩, dd⟩
theorem bld_wk {K : PySem.W.Frag} {H H' : Hp} {a : Addr} {b : Bld} (s : Wk H H') (h : BldAt K H a b) : BldAt K H' a b := by
  obtain ⟨d, h1, h2⟩ := h
  exact ⟨d, sqt_wk s h1, vecf_wk s h2⟩
theorem nkey_wk {k : FN.NK} {H H' : Hp} {a : Addr} (s : Wk H H') (h : FN.NKeyAt H k a) : FN.NKeyAt H' k a := by
  obtain ⟨bs, h1, h2, h3⟩ := h
  exact ⟨bs, s _ _ h1 True.intro, h2, fun i c ks e1 e2 => s _ _ (h3 i c ks e1 e2) True.intro⟩
theorem stps_wk {K : PySem.W.Frag} {H H' : Hp} {a : Addr} {ps : List Stp} (s : Wk H H') (h : StpsAt K H a ps) : StpsAt K H' a ps := by
  obtain ⟨xs, x1, x2, x3⟩ := h
  refine ⟨xs, sqt_wk s x1, x2, fun i x p hx hp => ?_⟩
  obtain ⟨b, h1, h2⟩ := x3 i x p hx hp
  exact ⟨b, h1, sqt_wk s h2⟩
theorem st_wk {K : PySem.W.Frag} {H H' : Hp} {a : Addr} {ps : List Stp} {st : Sta} (s : Wk H H') (h : StAt K H a ps st) : StAt K H' a ps st := by
  obtain ⟨row, e, xs, h1, h2, h3⟩ := h
  refine ⟨row, e, xs, sqt_wk s h1, h2, fun i x p hx hp => ?_⟩
  obtain ⟨b, e1, e2⟩ := h3 i x p hx hp
  exact ⟨b, e1, sqt_wk s e2⟩
/-- a reading that stands as long as those do -/
def FSt {α : Type} (R : Hp → V → α → Prop) : Prop := ∀ H H' v x, Wk H H' → R H v x → R H' v x
/-- values, one for each -/
structure Ls {α : Type} (R : Hp → V → α → Prop) (H : Hp) (vs : List V) (l : List α) : Prop where
  len : vs.length = l.length
  at_ : ∀ (i : Nat) (v : V) (x : α), vs[i]? = some v → l[i]? = some x → R H v x
theorem Ls.wk {α : Type} {R : Hp → V → α → Prop} (hR : FSt R) {H H' : Hp} {vs : List V} {l : List α} (s : Wk H H') (h : Ls R H vs l) : Ls R H' vs l := ⟨h.len, fun i v x e1 e2 => hR _ _ _ _ s (h.at_ i v x e1 e2)⟩
theorem Ls.fch {α : Type} {R : Hp → V → α → Prop} (hR : FSt R) {H H' : Hp} {vs : List V} {l : List α} (s : Fch H H') (h : Ls R H vs l) : Ls R H' vs l := h.wk hR s.wk
theorem Ls.nil {α : Type} {R : Hp → V → α → Prop} {H : Hp} : Ls R H [] [] := ⟨rfl, fun i v x e => by simp at e⟩
theorem Ls.snoc {α : Type} {R : Hp → V → α → Prop} {H : Hp} {vs : List V} {l : List α} {v : V} {x : α} (h : Ls R H vs l) (hv : R H v x) : Ls R H (vs ++ [v]) (l ++ [x]) := by
  refine ⟨by rw [List.length_append, List.length_append, h.len]; rfl, fun i u y e1 e2 => ?_⟩
  have hl := h.len
  rcases get_snoc e1 with ⟨l1, e1⟩ | ⟨l1, e3⟩
  · rw [List.getElem?_append_left (by omega)] at e2
    exact h.at_ i u y e1 e2
  · rw [List.getElem?_append_right (by omega), l1, hl, Nat.sub_self] at e2
    obtain rfl : x = y := Option.some.inj e2
    rw [← e3]
    exact hv
theorem Ls.get {α : Type} {R : Hp → V → α → Prop} {H : Hp} {vs : List V} {l : List α} (h : Ls R H vs l) {i : Nat} {x : α} (e : l[i]? = some x) : ∃ v, vs[i]? = some v ∧ R H v x := by
  have lt := get_lt e
  have hl := h.len
  exact ⟨vs[i]'(by omega), List.getElem?_eq_getElem (by omega), h.at_ i _ x (List.getElem?_eq_getElem (by omega)) e⟩
/-- a frozen list; a tuple -/
def FL {α : Type} (R : Hp → V → α → Prop) (H : Hp) (a : Addr) (l : List α) : Prop := ∃ vs o, H a = some (.frz o (.lst vs)) ∧ Ls R H vs l
def FT {α : Type} (K : PySem.W.Frag) (R : Hp → V → α → Prop) (H : Hp) (a : Addr) (l : List α) : Prop := ∃ vs, SqT K H a vs ∧ Ls R H vs l
/-- .. as values -/
def RL {α : Type} (R : Hp → V → α → Prop) (H : Hp) (v : V) (l : List α) : Prop := ∃ a, v = .ref a ∧ FL R H a l
def RT {α : Type} (K : PySem.W.Frag) (R : Hp → V → α → Prop) (H : Hp) (v : V) (l : List α) : Prop := ∃ a, v = .ref a ∧ FT K R H a l
def RI (_ : Hp) (v : V) (n : Int) : Prop := v = .int n
theorem FL.wk {α : Type} {R : Hp → V → α → Prop} (hR : FSt R) {H H' : Hp} {a : Addr} {l : List α} (s : Wk H H') (h : FL R H a l) : FL R H' a l := by
  obtain ⟨vs, o, h1, h2⟩ := h
  exact ⟨vs, o, s _ _ h1 True.intro, h2.wk hR s⟩
theorem FT.wk {α : Type} {K : PySem.W.Frag} {R : Hp → V → α → Prop} (hR : FSt R) {H H' : Hp} {a : Addr} {l : List α} (s : Wk H H') (h : FT K R H a l) : FT K R H' a l := by
  obtain ⟨vs, h1, h2⟩ := h
  exact ⟨vs, sqt_wk s h1, h2.wk hR s⟩
theorem FL.fch {α : Type} {R : Hp → V → α → Prop} (hR : FSt R) {H H' : Hp} {a : Addr} {l : List α} (s : Fch H H') (h : FL R H a l) : FL R H' a l := h.wk hR s.wk
theorem FT.fch {α : Type} {K : PySem.W.Frag} {R : Hp → V → α → Prop} (hR : FSt R) {H H' : Hp} {a : Addr} {l : List α} (s : Fch H H') (h : FT K R H a l) : FT K R H' a l := h.wk hR s.wk
theorem fst_RL {α : Type} {R : Hp → V → α → Prop} (hR : FSt R) : FSt (RL R) := fun H H' v x s ⟨a, e, h⟩ => ⟨a, e, h.wk hR s⟩
theorem fst_RT {α : Type} {K : PySem.W.Frag} {R : Hp → V → α → Prop} (hR : FSt R) : FSt (RT K R) := fun H H' v x s ⟨a, e, h⟩ => ⟨a, e, h.wk hR s⟩
theorem fst_RI : FSt RI := fun _ _ _ _ _ h => h
theorem ls_int {H : Hp} {vs : List V} {l : List Int} (h : Ls RI H vs l) : vs = l.map V.int := by
  refine List.ext_getElem? fun i => ?_
  rw [List.getElem?_map]
  cases e : l[i]? with
  | none =>
    have hl := h.len
    rw [List.getElem?_eq_none_iff] at e
    show vs[i]? = none
    rw [List.getElem?_eq_none_iff]
    omega
  | some x =>
    obtain ⟨v, h1, h2⟩ := h.get e
    rw [h1, show v = .int x from h2]
    rfl
theorem ls_ints {H : Hp} (l : List Int) : Ls RI H (l.map V.int) l := ⟨List.length_map _, fun i v x e1 e2 => by
  rw [List.getElem?_map, e2] at e1
  exact (Option.some.inj e1).symm⟩
/-- a pair of numbers -/
def RP (K : PySem.W.Frag) (H : Hp) (v : V) (q : Int × Int) : Prop := ∃ t, v = .ref t ∧ SqT K H t [.int q.1, .int q.2]
theorem fst_RP {K : PySem.W.Frag} : FSt (RP K) := fun _ _ _ _ s ⟨t, e, h⟩ => ⟨t, e, sqt_wk s h⟩
section
/-- [.. for x in ..] where nothing but new places comes: each turn leaves what is due -/
theorem lc_ls {α : Type} {J : It} {n : Nat} {G : Hp → Prop} {Y : Nat → Hp → V → Hp → Prop} (wk : Walk J n G Y) {g : TG} {tt : TT} {te : TE} {vs : List Nat} {σ : L2.St} {H1 : Hp} {D : Addr} {Qd : Hp → Prop} {R : Hp → V → α → Prop} (hR : FSt R) (r : List α) (hr : r.length = n) (hn : n < sizeLine) (hD : H1 D = none)
    (hG : ∀ H, Same H1 H → G H)
    (st : ∀ i x y H H' (Nx : Hp → Prop), r[i]? = some y → Same H1 H → Y i H x H' → (∀ v H4, Same H H4 → R H4 v y → ∃ ys, H4 D = some (.lst ys) ∧ ys.length < sizeLine ∧ Nx (upd H4 D (.lst (ys ++ [v])))) →
      g x (wipe σ vs) H' fun σ2 H2 => wipe σ2 vs = wipe σ vs ∧ tt σ2 H2 fun b H3 => if b = true then te σ2 H3 fun y H4 => ∃ ys, H4 D = some (.lst ys) ∧ ys.length < sizeLine ∧ Nx (upd H4 D (.lst (ys ++ [y]))) else Nx H3)
    (fin : ∀ H us, Same H1 H → H D = some (.lst us) → Ls R H us r → Qd H) : ∃ W : Nat → Nat → Hp → Prop, (∃ m, W 0 m (upd H1 D (.lst []))) ∧ ∀ i m H, W i m H →
  (J.stop i H ∧ Qd H) ∨ (J.go i H ∧ ∃ Nx : Hp → Prop, (∀ H', Nx H' → ∃ m', m' < m ∧ W (i + 1) m' H') ∧ ∀ x H', J.yld i H x H' → g x (wipe σ vs) H' fun σ2 H2 => wipe σ2 vs = wipe σ vs ∧ tt σ2 H2 fun b H3 =>
    if b = true then te σ2 H3 fun y H4 => ∃ ys, H4 D = some (.lst ys) ∧ ys.length < sizeLine ∧ Nx (upd H4 D (.lst (ys ++ [y]))) else Nx H3) := by
  refine lc_it wk (fun i H => Same H1 H ∧ ∃ us, H D = some (.lst us) ∧ Ls R H us (r.take i)) ⟨same_upd (Same.refl H1) hD, [], upd_same, by rw [List.take_zero]; exact .nil⟩ (fun i H _ p => hG H p.1) ?_ ?_
  · rintro i x H H' hi ⟨s1, us, hus, hls⟩ hy
    obtain ⟨y, hyy⟩ : ∃ y, r[i]? = some y := ⟨r[i]'(by omega), List.getElem?_eq_getElem (by omega)⟩
    refine st i x y H H' _ hyy s1 hy fun v H4 s4 hv => ?_
    have e4 := s4 _ _ hus
    have hlu := hls.len
    have hlt : (r.take i).length ≤ i := by rw [List.length_take]; omega
    refine ⟨us, e4, by omega, fun b o hb => ?_, us ++ [v], upd_same, ?_⟩
    · rw [upd_ne (ne_of_none hb hD)]
      exact s4 _ _ (s1 _ _ hb)
    · rw [take_succ_get hyy]
      have f4 : Fch H (upd H4 D (.lst (us ++ [v]))) := fch_upd (Fch.of s4) e4 True.intro
      exact (hls.fch hR f4).snoc (hR _ _ _ _ (fch_upd (Fch.refl _) e4 True.intro).wk hv)
  · rintro H ⟨s1, us, hus, hls⟩
    rw [← hr, List.take_length] at hls
    exact fin H us s1 hus hls
end
end FC
set_option Elab.async false
set_option linter.all false
set_option maxRecDepth 100000
set_option maxHeartbeats 4000000
/-! Groups, rests, evenness, tables in plain Lean. -/
namespace FC
abbrev CLine := List (Int × Int)
def countLine (M : Mac) (m : Int) (a : Int) : Option CLine := do
  let mv ← at? M.moves a
  guardO (decide (mv.length ≤ 2000))
  pure ((mv.take m.toNat).map fun q => ((q.1.length : Int), q.2.1))
def lineOf (M : Mac) (m : Int) (mem : List Int) : Option CLine := do
  let a ← mem[0]?
  countLine M m a
def keyE (classes : List Int) (q : Int × Int) : Option (Int × Int) := do
  let c ← at? classes q.2
  pure (q.1, c)
/-- the number of each key, by the sequence in which they are met -/
def numS (d : List CLine) (k : CLine) : List CLine := if d.any (fun e => decide (e = k)) then d else d ++ [k]
def numbered (keys : List CLine) : List CLine := keys.foldl numS []
def numOf (d : List CLine) (k : CLine) : Int := ((d.findIdx (fun e => decide (e = k)) : Nat) : Int)
def aliveLoop (lines : List CLine) : Nat → Nat → List Int → Option (List Int)
  | 0, _, _ => none
  | f + 1, many, classes =>
    if many < lines.length then do
      let keys ← lines.mapM fun l => l.mapM (keyE classes)
      if (numbered keys).length = many then some classes else aliveLoop lines f (numbered keys).length (keys.map (numOf (numbered keys)))
    else some classes
def alike (lines : List CLine) : Option (List Int) := do
  guardO (decide (lines.length < 100000) && lines.all fun l => decide (l.length ≤ 2000))
  aliveLoop lines (lines.length + 1) 0 (lines.map fun _ => 0)
def ffS (classes : List Int) (q : List Int × List Int) (p : Int × Int) : Option (List Int × List Int) := do
  let c ← at? classes p.2
  if q.2.any (fun d => decide (d = c)) then pure q else pure (q.1 ++ [p.2], q.2 ++ [c])
def firstsLoop (lines : List CLine) (classes : List Int) : Nat → Nat → List Int × List Int → Option (List Int)
  | 0, _, _ => none
  | f + 1, k, q => do
    guardO (decide (q.1.length < 100000) && decide (q.2.length = q.1.length))
    match q.1[k]? with
    | none => some q.1
    | some c => do
      let l ← at? lines c
      let r ← l.foldlM (ffS classes) q
      firstsLoop lines classes f (k + 1) r
def firstsFound (lines : List CLine) (classes : List Int) : Option (List Int) := do
  let c ← classes[0]?
  guardO (lines.all fun l => decide (l.length ≤ 2000))
  firstsLoop lines classes (lines.length + 1) 0 ([0], [c])
structure Grp where
  firsts : List Int
  ofControl : List Int
  counts : List CLine
  anchors : List (List Int)
def nmS (classes : List Int) (v : Vec) (p : Int × Nat) : Option Vec := do
  let c ← at? classes p.1
  pure (vput v c (p.2 : Int))
def cntE (ofc : List Int) (q : Int × Int) : Option (Int × Int) := do
  let g ← at? ofc q.2
  pure (q.1, g)
def cntL (lines : List CLine) (ofc : List Int) (c : Int) : Option CLine := do
  let l ← at? lines c
  l.mapM (cntE ofc)
def ancS (acc : List (List Int)) (q : List Int × Int) : Option (List (List Int)) := do
  let l ← at? acc q.2
  guardO (decide (l.length + q.1.length < 100000))
  pure (acc.set q.2.toNat (l ++ q.1))
def groups (M : Mac) (m : Int) : Option Grp := do
  guardO (decide (M.members.length < 100000))
  let lines ← M.members.mapM (lineOf M m)
  let classes ← alike lines
  let firsts ← firstsFound lines classes
  guardO (decide (firsts.length < 100000) && decide (classes.length < 100000))
  let nums ← firsts.zipIdx.foldlM (nmS classes) []
  let ofc ← classes.mapM (vget nums)
  let counts ← firsts.mapM (cntL lines ofc)
  let anchors ← (M.members.zip ofc).foldlM ancS (firsts.map fun _ => [])
  pure ⟨firsts, ofc, counts, anchors⟩
/-! ### rests -/
abbrev Tie := List (Int × Vec)
abbrev Tst := Int × Vec
def wrS (numbers : Vec) (t : Int) (p : Int × Int) : Option Int := do
  let n ← vget numbers p.1
  guardO (sm t && (sm p.2 && sm n))
  pure (t + p.2 * n)
def worth (tie numbers : Vec) : Option Int := tie.foldlM (wrS numbers) 0
def rfS (numbers : Vec) (q : Option (Vec × Int) × Tie) (p : Int × Vec) : Option (Option (Vec × Int) × Tie) := do
  let x ← worth p.2 numbers
  guardO (sm x)
  if x = 0 then pure (q.1, q.2 ++ [p]) else match q.1 with
    | none => pure (some (p.2, x), q.2)
    | some g => do
      guardO (vsm p.2 && (vsm g.1 && sm g.2))
      pure (some g, q.2 ++ [(p.1, vcombined p.2 g.2 g.1 (-x))])
def refutes (t : Tst) (ties : List Tie) : Option (Bool × List Tie) := do
  let tied ← at? ties t.1
  guardO (decide (tied.length < 100000))
  let q ← tied.foldlM (rfS t.2) (none, [])
  pure (q.1.isSome, ties.set t.1.toNat q.2)
def ftA (M : Mac) (x pl : Int) (v : Vec) (a : Int) : Option Vec := do
  let mv ← at? M.moves a
  let e ← at? mv x
  let n ← at? e.1 pl
  pure (vput v a n)
def ftP (M : Mac) (g : Nat) (anchors : List Int) (x : Int) (acc : List Tst) (pl : Int) : Option (List Tst) := do
  let nums ← anchors.foldlM (ftA M x pl) []
  guardO (decide (acc.length < 100000))
  pure (acc ++ [((g : Int), nums)])
def ftX (M : Mac) (G : Grp) (m : Int) (g : Nat) (anchors : List Int) (acc : List Tst) (x : Int) : Option (List Tst) := do
  let line ← G.counts[g]?
  let q ← at? line (x % m)
  guardO (decide (0 ≤ q.1) && decide (q.1 < 100000))
  (upto q.1).foldlM (ftP M g anchors x) acc
def ftG (M : Mac) (G : Grp) (m : Int) (acc : List Tst) (q : List Int × Nat) : Option (List Tst) := do
  guardO (decide (q.1.length < 100000))
  (upto (2 * m)).foldlM (ftX M G m q.2 q.1) acc
def firstTests (M : Mac) (G : Grp) (m : Int) : Option (List Tst) := G.anchors.zipIdx.foldlM (ftG M G m) []
def mbE (g n : Nat) (acc : List (List (Int × Int))) (e : (Int × Int) × Nat) : Option (List (List (Int × Int))) := do
  let l ← at? acc e.1.2
  guardO (decide (l.length < 100000))
  pure (acc.set e.1.2.toNat (l ++ [((g : Int), (e.2 : Int)), ((g : Int), (e.2 : Int) + (n : Int))]))
def mbL (acc : List (List (Int × Int))) (q : CLine × Nat) : Option (List (List (Int × Int))) := do
  guardO (decide (q.1.length ≤ 2000))
  q.1.zipIdx.foldlM (mbE q.2 q.1.length) acc
def movesBy (G : Grp) : Option (List (List (Int × Int))) := do
  guardO (decide (G.counts.length < 100000))
  G.counts.zipIdx.foldlM mbL (G.counts.map fun _ => [])
def taA (M : Mac) (x : Int) (numbers v : Vec) (a : Int) : Option Vec := do
  let mv ← at? M.moves a
  let e ← at? mv x
  let total ← worth e.2.2.1 numbers
  guardO (sm total && (sm e.2.2.2 && (decide (0 < e.2.2.2) && decide (v.length < 100000))))
  pure (vput v a (total / e.2.2.2))
def testAhead (M : Mac) (G : Grp) (g x : Int) (numbers : Vec) : Option Tst := do
  let anchors ← at? G.anchors g
  let ahead ← anchors.foldlM (taA M x numbers) []
  pure (g, ahead)
def sfS (q : List Tie × List Tst) (t : Tst) : Option (List Tie × List Tst) := do
  let r ← refutes t q.1
  guardO (decide (q.2.length < 100000))
  pure (r.2, if r.1 then q.2 ++ [t] else q.2)
def srS (M : Mac) (G : Grp) (numbers : Vec) (q : List Tie × List Tst) (p : Int × Int) : Option (List Tie × List Tst) := do
  let tied ← at? q.1 p.1
  if tied.isEmpty then pure q else do
    let t ← testAhead M G p.1 p.2 numbers
    sfS q t
def spendLoop (M : Mac) (G : Grp) (mb : List (List (Int × Int))) : Nat → Nat → List Tie × List Tst → Option (List Tie)
  | 0, _, _ => none
  | f + 1, k, q => match q.2[k]? with
    | none => some q.1
    | some t => do
      let mv ← at? mb t.1
      let r ← mv.foldlM (srS M G t.2) q
      spendLoop M G mb f (k + 1) r
def spendTests (fuel : Nat) (M : Mac) (G : Grp) (m : Int) (ties : List Tie) : Option (List Tie) := do
  let ft ← firstTests M G m
  let q ← ft.foldlM sfS (ties, [])
  let mb ← movesBy G
  spendLoop M G mb fuel 0 q
def untied (a : Int) (tie : Vec) : Option Bld := do
  let own ← vget tie a
  guardO (!decide (own = 0) && (vsm tie && sm own))
  pure (vshortened ((tie.filter fun p => !decide (p.1 = a)).map fun p => (p.1, (if own < 0 then 1 else -1) * p.2)) (own.natAbs : Int))
def tie0 (as : List Int) : Tie := as.foldl (fun t a => spnPut t a [(a, 1)]) []
def tlA (told : List Bld) (p : Int × Vec) : Option (List Bld) := do
  let u ← untied p.1 p.2
  guardO (decide (0 ≤ p.1) && decide (p.1 < told.length))
  pure (told.set p.1.toNat u)
def tlT (told : List Bld) (tied : Tie) : Option (List Bld) := tied.foldlM tlA told
def told0 (n : Nat) : List Bld := (upto (n : Int)).map only
def toldRests (fuel : Nat) (M : Mac) (G : Grp) (m : Int) : Option (List Bld) := do
  guardO (decide (M.anchors.length < 100000) && (decide (G.anchors.length < 100000) && G.anchors.all fun l => decide (l.length < 100000)))
  let ties ← spendTests fuel M G m (G.anchors.map tie0)
  ties.foldlM tlT (told0 M.anchors.length)
/-! ### evenness -/
abbrev MvT := List Int × Bld
def bends (one two three : List Int) : Bool := (one.zip (two.zip three)).any fun q => !decide (q.1 + q.2.2 = 2 * q.2.1)
def goesEvenly (line : List MvT) (m : Nat) : Nat → Nat → Option Bool
  | 0, _ => some true
  | k + 1, x => do
    let low ← line[x]?
    let mid ← line[x + m]?
    let high ← line[x + 2 * m]?
    guardO ((low.1.all sm && mid.1.all sm) && high.1.all sm)
    if bends low.1 mid.1 high.1 then some false else do
      let b ← blended ([(0, 1), (1, -2), (2, 1)], 1) [low.2, mid.2, high.2]
      if b.1.isEmpty then goesEvenly line m k (x + 1) else some false
def rep (l : CLine) : Nat → CLine
  | 0 => []
  | n + 1 => l ++ rep l n
def geE (m : Nat) (l : List MvT) : Option Bool := do
  guardO (decide (l.length < 100000))
  goesEvenly l m (l.length - 2 * m) 0
def isEven (G : Grp) (moves : List (List MvT)) (m : Nat) : Option Bool := do
  guardO (decide (moves.length < 100000) && (decide (0 < m ∧ m ≤ 1000) && (G.counts.all fun l => decide (0 < l.length ∧ l.length ≤ 1000))))
  if G.counts.all fun l => decide (l = rep (l.take m) (l.length / m)) then do
    let bs ← moves.mapM (geE m)
    pure (bs.all id)
  else some false
def modulusGo (G : Grp) (moves : List (List MvT)) (mm : Nat) : Nat → Nat → Option Nat
  | 0, _ => some mm
  | k + 1, x => if mm % x = 0 then do
      let b ← isEven G moves x
      if b then some x else modulusGo G moves mm k (x + 1)
    else modulusGo G moves mm k (x + 1)
def faS (acc : List Int) (q : Bld × Nat) : List Int := if q.1.1.any fun p => decide (p.1 = (q.2 : Int)) then acc ++ [(q.2 : Int)] else acc
def freeAnchors (told : List Bld) : List Int := told.zipIdx.foldl faS []
def mtE (told : List Bld) (e : Mov) : Option MvT := do
  let b ← blended e.2.2 told
  pure (e.1, b)
def movesTold (M : Mac) (told : List Bld) (a : Int) : Option (List MvT) := do
  let mv ← at? M.moves a
  guardO (decide (mv.length ≤ 2000))
  mv.mapM (mtE told)
def modulusOf (M : Mac) (G : Grp) (told : List Bld) (mm : Int) : Option Int := do
  guardO (decide (told.length < 100000))
  let moves ← (freeAnchors told).mapM (movesTold M told)
  let r ← modulusGo G moves mm.toNat (mm.toNat - 1) 1
  pure (r : Int)
/-! ### tables -/
abbrev Mix := List (Int × Int × Int)
def ffrac (top bottom : Int) : Int × Int := (top / ((Nat.gcd top.natAbs bottom.natAbs : Nat) : Int), bottom / ((Nat.gcd top.natAbs bottom.natAbs : Nat) : Int))
def insK (x : Int) : List Int → List Int
  | [] => [x]
  | y :: r => if x ≤ y then x :: y :: r else y :: insK x r
def sortK (l : List Int) : List Int := l.foldr insK []
def withFractions (b : Bld) : Mix := (sortK (vkeys b.1)).map fun k => (k, ffrac ((vget b.1 k).getD 0) b.2)
structure Tbl where
  spans : List Spn
  basis : List (List Int × Int)
  states : List Sta
  entries : List (List (List Int × Mix))
structure Ctx where
  ps : List Stp
  M : Mac
  G : Grp
  told : List Bld
  modulus : Int
def lookFin (T : Tbl) (row : List Int) (s : Sta) (g : Int) (r : Spn × Bld) : Tbl :=
  if r.2.1.any (fun p => decide (p.1 = (T.basis.length : Int))) then { T with spans := T.spans.set g.toNat r.1, basis := T.basis ++ [(row, g)], states := T.states ++ [s] } else { T with spans := T.spans.set g.toNat r.1 }
def lookAt (C : Ctx) (q : Mac × Tbl) (row : List Int) (s : Sta) : Option ((Mac × Tbl) × Mix) := do
  guardO (macOk q.1)
  let z ← locate (moduliOf C.ps).1 q.1 s
  let g ← at? C.G.ofControl z.2.1
  let S ← at? q.2.spans g
  let b ← blended z.2.2 C.told
  guardO (decide (b.1.length < 2000) && (decide (q.2.basis.length < 100000) && decide (q.2.states.length < 100000)))
  let r ← place S b (q.2.basis.length : Int)
  guardO (decide (r.2.1.length < 64) && (vsm r.2.1 && (sm r.2.2 && decide (0 < r.2.2))))
  pure ((z.1, lookFin q.2 row s g r), withFractions r.2)
def enS (C : Ctx) (row : List Int) (s : Sta) (q : (Mac × Tbl) × List (List Int × Mix)) (x : Int) : Option ((Mac × Tbl) × List (List Int × Mix)) := do
  guardO (decide (row.length < 100000))
  let r ← lookAt C q.1 (row ++ [x]) (adv C.ps s x).2
  pure (r.1, q.2 ++ [((adv C.ps s x).1, r.2)])
def tableLoop (C : Ctx) : Nat → Mac × Tbl → Option (Mac × Tbl)
  | 0, _ => none
  | f + 1, q => match q.2.basis[q.2.entries.length]?, q.2.states[q.2.entries.length]? with
    | some b, some s => do
      let r ← (upto (2 * C.modulus)).foldlM (enS C b.1 s) (q, [])
      guardO (decide (r.1.2.entries.length < 100000))
      tableLoop C f (r.1.1, { r.1.2 with entries := r.1.2.entries ++ [r.2] })
    | none, _ => some q
    | _, none => none
abbrev Frm' := Int × List CLine × List (List Int × Int) × List (List (List Int × Mix))
def context (fuel : Nat) (ps : List Stp) : Option Ctx := do
  let M ← machine fuel ps
  let G ← groups M (moduliOf ps).2
  let told ← toldRests fuel M G (moduliOf ps).2
  let md ← modulusOf M G told (moduliOf ps).2
  pure ⟨ps, M, G, told, md⟩
def table (fuel : Nat) (C : Ctx) : Option Tbl := do
  guardO (decide (C.G.counts.length < 100000) && decide (0 ≤ C.modulus ∧ C.modulus ≤ 1000))
  let q ← lookAt C (C.M, ⟨C.G.counts.map fun _ => [], [], [], []⟩) [] (startM C.ps)
  let r ← tableLoop C fuel q.1
  pure r.2
def formM (fuel : Nat) (ps : List Stp) : Option Frm' := do
  let C ← context fuel ps
  let T ← table fuel C
  pure (C.modulus, C.G.counts.map (fun l => l.take C.modulus.toNat), T.basis, T.entries)
end FC
set_option Elab.async false
set_option linter.all false
set_option maxRecDepth 100000
set_option maxHeartbeats 4000000
/-! count_line. -/
namespace FC
open PySem PySem.Spec PyProof.Rows L2
theorem take_get {α : Type} {l : List α} {n i : Nat} {x : α} (h : (l.take n)[i]? = some x) : l[i]? = some x := by
  have lt := get_lt h
  rw [List.length_take] at lt
  rw [List.getElem?_take] at h
  by_cases z : i < n
  · rw [if_pos z] at h
    exact h
  · omega
theorem at_some {α : Type} {l : List α} {i : Int} {x : α} (h : at? l i = some x) : 0 ≤ i ∧ l[i.toNat]? = some x := by
  unfold at? at h
  by_cases hi : 0 ≤ i
  · rw [if_pos hi] at h
    exact ⟨hi, h⟩
  · rw [if_neg hi] at h
    cases h
theorem atI_of {xs : List V} {i : Int} {v : V} (h0 : 0 ≤ i) (h : xs[i.toNat]? = some v) : atI xs i = some v := by
  have := atI_nat (j := i.toNat) h
  rw [Int.toNat_of_nonneg h0] at this
  exact this
theorem cutV_to {xs : List V} {m : Int} (h : 0 ≤ m) : cutV xs none (some m) = xs.take m.toNat := by
  unfold cutV HT.sIx
  dsimp only
  rw [if_neg (by omega), Nat.sub_zero, List.drop_zero]
  by_cases z : m.toNat ≤ xs.length
  · rw [Nat.min_eq_left z]
  · rw [Nat.min_eq_right (by omega), List.take_length, List.take_of_length_le (by omega)]
def spCountLine (P : Program) (w : World) (K : PySem.W.Frag) (SC MCl : Addr) : Sp := fun vs H Q _ => ∃ (ma : Addr) (X : MC) (ps : List Stp) (M : Mac) (x : Int) (line : CLine), vs = [.ref ma, .int x] ∧ MacAt P w K SC MCl H ma X ps M ∧ countLine M (moduliOf ps).2 x = some line ∧ ∀ (t : Addr) H', Same H H' → FL (RP K) H' t line → Q (.ref t) H'
section
variable {P : Program} {w : World} {K : PySem.W.Frag} {mg : Str → Option Value} {base : Heap} {SC MCl : Addr}
abbrev NCo : List Str := ["machine", "anchor", "moves", "given", "control", "_"]
theorem scCountLine : FnScope NCo ["machine", "anchor"] (defScope sCountLine) := ⟨rfl, rfl, rfl, by decide +kernel, rfl, by decide +kernel, by decide +kernel⟩
theorem ok_countLine {f : Addr} {fd : FuncData} (F : Fun K "count_line" "count_line" sCountLine f fd) (T : McT K MCl) (B : Blt mg) : FnOk P w K mg base CX0 1 f fd ["machine", "anchor"] (spCountLine P w K SC MCl) := by
  refine F.ok scCountLine (fun vs H Q E h => ?_) (fun cdv A outer s H vs Q E hr h => ?_)
  · obtain ⟨ma, X, ps, M, x, line, rfl, _⟩ := h
    rfl
  · obtain ⟨ma, X, ps, M, x, line, rfl, hM, hm, q⟩ := h
    have nd := scCountLine.nd
    refine ⟨_, pss_cons (ps_set (i := 2) nd rfl (Or.inl rfl) (pe_slice sl_list (pe_ix (r := rIxL K) ix_list (pe_fld (pv 0) rfl) (pv 1) (fun _ _ => rfl)) po_none (po_some (pe_fld (pv 0) rfl))))
      (pss_one (ps_ret (pe_frz (pe_lc (own := [("given", 3), ("control", 4), ("_", 5)]) (g := gTup K 3 (gCons (gName 3) (gCons (gName 4) (gCons (gName 5) gNil)))) (tt := tYes) (te := tTup (tCons (tCB (fun xs H Q => ∃ x n, xs = [x] ∧ LenV K x H n ∧ Q (.int (n : Nat)) H) (tCons (tVar 3) tNil)) (tCons (tVar 4) tNil))) (by rfl) nd (pi_list (pv 2)) (blkOk_by (own := [("given", 3), ("control", 4), ("_", 5)]) (N := NCo) (sc := defScope sCountLine) (by decide +kernel)) (fun _ _ _ _ _ => pg_tup rfl (pgs_cons (pg_name (i := 3) nd rfl (Or.inl rfl)) (pgs_cons (pg_name (i := 4) nd rfl (Or.inl rfl)) (pgs_cons (pg_name (i := 5) nd rfl (Or.inl rfl)) pgs_nil))))
            (fun _ _ _ _ _ => pts_nil) (fun _ _ _ _ _ => pe_tup (pa_cons (pe_callB call_len (by rfl) B.len PySem.boot_len (pa_cons (pv 3) pa_nil)) (pa_cons (pv 4) pa_nil))))))), ?_⟩
    obtain ⟨dx, hi⟩ := hM.ins
    obtain ⟨h18, h19, h20⟩ := hM.moves
    unfold countLine at hm
    obtain ⟨mv, h1, hm⟩ := bnd_some.mp hm
    obtain ⟨_, h2, hm⟩ := bnd_some.mp hm
    have h2 := of_decide_eq_true (grd_some.mp h2)
    have hm : (mv.take (moduliOf ps).2.toNat).map (fun q => ((q.1.length : Int), q.2.1)) = line := Option.some.inj hm
    obtain ⟨hx0, h1⟩ := at_some h1
    have lt := get_lt h1
    obtain ⟨b, hb⟩ : ∃ b, X.es[x.toNat]? = some b := ⟨X.es[x.toNat]'(by omega), List.getElem?_eq_getElem (by omega)⟩
    obtain ⟨xs, ⟨o, hxs⟩, hxl, hxa⟩ := h20 _ b mv hb h1
    have m0 := (moduli_le hM.ok.1).1
    refine ⟨_, rfl, ma, MCl, dx, _, _, rfl, hi, T.cl, T.nmv, rfl, _, rfl, X.mv, _, x, .ref b, rfl, rfl, SqL.of h18, atI_of hx0 (by rw [List.getElem?_map, hb]; rfl), ?_⟩
    have hX : X.m = (moduliOf ps).2 := hM.modulus
    refine ⟨_, rfl, ma, MCl, dx, _, _, rfl, hi, T.cl, T.nm, rfl, X.m, rfl, b, xs, rfl, .inl (.inr ⟨o, hxs⟩), fun p hp => ?_⟩
    rw [hX, cutV_to (Int.le_of_lt m0)]
    have s1 := same_upd (o := .lst (xs.take (moduliOf ps).2.toNat)) (Same.refl H) hp
    have e1 : upd H p (.lst (xs.take (moduliOf ps).2.toNat)) p = some (.lst (xs.take (moduliOf ps).2.toNat)) := upd_same
    generalize upd H p (.lst (xs.take (moduliOf ps).2.toNat)) = H1 at s1 e1 ⊢
    refine ⟨_, rfl, p, rfl, ⟨_, SqL.of e1⟩, fun D hD => ?_⟩
    refine lc_ls (R := RP K) (walk_list (K := K) (a := p) (xs := xs.take (moduliOf ps).2.toNat)) fst_RP line (by rw [← hm, List.length_map, List.length_take, List.length_take, hxl]) (by rw [List.length_take, sizeLine_eq]; omega) hD (fun H2 s2 => SqL.of (s2 _ _ e1)) ?_ ?_
    · rintro i x2 y H2 H3 Nx hy s2 ⟨rfl, hx2⟩ fin
      rw [← hm, List.getElem?_map] at hy
      obtain ⟨e, he, rfl⟩ := Option.map_eq_some_iff.mp hy
      have he2 := take_get he
      have hx3 := take_get hx2
      obtain ⟨b2, rfl, g, bl, q1, q2, q3⟩ := hxa i x2 e hx3 he2
      have q1 := sqt_same (Same.trans s1 s2) q1
      have q2 := sqt_same (Same.trans s1 s2) q2
      refine ⟨b2, _, rfl, q1, rfl, _, _, rfl, _, _, rfl, _, _, rfl, rfl, ?_⟩
      refine ⟨rfl, _, rfl, _, _, rfl, .inr ⟨_, q2, rfl⟩, _, rfl, (by show 2 ≤ sizeLine; decide), fun t ht => ?_⟩
      rw [List.length_map]
      exact fin _ _ (same_upd (Same.refl H3) ht) ⟨t, rfl, sqt_new⟩
    · intro H2 us s2 hus hls
      refine .inr ⟨D, _, rfl, hus, True.intro, fun ob => ?_⟩
      have hDH : H D = none := by
        cases y : H D with
        | none => rfl
        | some ob => rw [s1 _ _ y] at hD; cases hD
      refine q D _ (fun c oc h => ?_) ⟨us, ob, upd_same, hls.fch fst_RP (fch_upd (Fch.refl _) hus True.intro)⟩
      rw [upd_ne (ne_of_none h hDH)]
      exact s2 _ _ (s1 _ _ h)
end
end FC
set_option Elab.async false
set_option linter.all false
set_option maxRecDepth 100000
set_option maxHeartbeats 4000000
/-! firsts_found. -/
namespace FC
open PySem PySem.Spec PyProof.Rows L2
theorem Same.updn {H G : Hp} {d : Addr} {o : HO} (s : Same H G) (n : H d = none) : Same H (upd G d o) := fun b ob h => by
  rw [upd_ne (ne_of_none h n)]
  exact s _ _ h
theorem none_same {H G : Hp} {d : Addr} (s : Same H G) (n : G d = none) : H d = none := by
  cases y : H d with
  | none => rfl
  | some o => rw [s _ _ y] at n; cases n
abbrev fkv (l : List Int) : List (Key × V) := l.map fun c => ((Sum.inl c : Key), V.bl true)
theorem any_fkv (l : List Int) (c : Int) : ((fkv l).any fun kv => decide (kv.1 = Sum.inl c)) = l.any fun d => decide (d = c) := by
  rw [List.any_map]
  congr 1
  funext p
  show decide ((Sum.inl p : Key) = Sum.inl c) = decide (p = c)
  by_cases e : p = c
  · rw [decide_eq_true e, decide_eq_true (by rw [e])]
  · rw [decide_eq_false e, decide_eq_false (fun z => e (Sum.inl.inj z))]
theorem valV_fkv (l : List Int) (c : Int) : (valV (fkv l) (.inl c)).isSome = l.any fun d => decide (d = c) := by
  rw [← any_fkv]
  have := valV_any (Sum.inl c) (fkv l)
  rw [this]
theorem putK_fkv {l : List Int} {c : Int} (h : (l.any fun d => decide (d = c)) = false) : putK (fkv l) (.inl c) (.bl true) = fkv (l ++ [c]) := by
  unfold putK
  rw [any_fkv, h]
  show fkv l ++ [((Sum.inl c : Key), V.bl true)] = (l ++ [c]).map _
  rw [List.map_append]
  rfl
def spFirsts (K : PySem.W.Frag) : Sp := fun vs H Q _ => ∃ (la ca : Addr) (lines : List CLine) (classes r : List Int), vs = [.ref la, .ref ca] ∧ FL (RL (RP K)) H la lines ∧ FL RI H ca classes ∧ firstsFound lines classes = some r ∧ ∀ (t : Addr) H', Same H H' → FL RI H' t r → Q (.ref t) H'
section
variable {P : Program} {w : World} {K : PySem.W.Frag} {mg : Str → Option Value} {base : Heap}
abbrev NFf : List Str := ["lines", "classes", "firsts", "found", "at", "line", "_", "behind"]
theorem scFirsts : FnScope NFf ["lines", "classes"] (defScope sFirstsFound) := ⟨rfl, rfl, rfl, by decide +kernel, rfl, by decide +kernel, by decide +kernel⟩
theorem ok_firsts {f : Addr} {fd : FuncData} (F : Fun K "firsts_found" "firsts_found" sFirstsFound f fd) (B : Blt mg) : FnOk P w K mg base CX0 1 f fd ["lines", "classes"] (spFirsts K) := by
  refine F.ok scFirsts (fun vs H Q E h => ?_) (fun cdv A outer s H vs Q E hr h => ?_)
  · obtain ⟨la, ca, lines, classes, r, rfl, _⟩ := h
    rfl
  · obtain ⟨la, ca, lines, classes, r, rfl, hla, hca, hm, q⟩ := h
    have nd := scFirsts.nd
    refine ⟨_, pss_cons (ps_set (i := 2) nd rfl (Or.inl rfl) (pe_lst (pa_cons pe_int pa_nil)))
      (pss_cons (ps_set (i := 3) nd rfl (Or.inl rfl) (pe_disp (pps_cons (pe_ix (r := rIxL K) ix_list (pv 1) pe_int (fun _ _ => rfl)) pe_bl pps_nil) rfl rfl (by simp) (by decide)))
      (pss_cons (ps_set (i := 4) nd rfl (Or.inl rfl) pe_int)
      (pss_cons (ps_while PassesOwn.never (pt_cmp (pc_lt (pv 4) (pe_callB call_len (by rfl) B.len PySem.boot_len (pa_cons (pv 2) pa_nil))))
        (pss_cons (ps_set (i := 5) nd rfl (Or.inl rfl) (pe_ix (r := rIxL K) ix_list (pv 0) (pe_ix (r := rIxL K) ix_list (pv 2) (pv 4) (fun _ _ => rfl)) (fun _ _ => rfl)))
        (pss_cons (ps_for PassesOwn.never rfl (pi_list (pv 5)) (pg_tup rfl (pgs_cons (pg_name (i := 6) nd rfl (Or.inl rfl)) (pgs_cons (pg_name (i := 7) nd rfl (Or.inl rfl)) pgs_nil)))
          (pss_one (ps_if (pt_cmp (pc_dnotin (hu_of hr) (pe_ix (r := rIxL K) ix_list (pv 1) (pv 7) (fun _ _ => rfl)) (pv 3)))
            (pss_cons (ps_dput (hu_of hr) (pv 3) (pe_ix (r := rIxL K) ix_list (pv 1) (pv 7) (fun _ _ => rfl)) pe_bl rfl)
            (pss_one (ps_expr (pe_bm PySem.F.plainAttrs_list PySem.F.slot_list_append PySem.F.type_list_append mt_append (pv 2) (pa_cons (pv 7) pa_nil))))) pss_nil)))
        (pss_one (ps_aug (i := 4) nd rfl (Or.inl rfl) pe_int ip_add)))))
      (pss_one (ps_ret (pe_frz (pv 2))))))), ?_⟩
    unfold firstsFound at hm
    obtain ⟨c0, hc0, hm⟩ := bnd_some.mp hm
    obtain ⟨_, hg, hm⟩ := bnd_some.mp hm
    have hg := List.all_eq_true.mp (grd_some.mp hg)
    obtain ⟨lv, lo, hl1, hl2⟩ := hla
    obtain ⟨cv, co, hc1, hc2⟩ := hca
    have ecv := ls_int hc2
    subst ecv
    refine ⟨(by show 1 ≤ sizeLine; decide), fun fl nfl => ?_⟩
    have s1 := same_upd (o := .lst [V.int 0]) (Same.refl H) nfl
    have e1 : upd H fl (.lst [V.int 0]) fl = some (.lst [V.int 0]) := upd_same
    generalize upd H fl (.lst [V.int 0]) = H1 at s1 e1 ⊢
    intro fo nfo
    have s2 := same_upd (o := .dK []) s1 nfo
    have e2 : upd H1 fo (.dK []) fo = some (.dK []) := upd_same
    have e21 := same_upd (o := .dK []) (Same.refl H1) nfo _ _ e1
    have nfo0 := none_same s1 nfo
    have nff : fl ≠ fo := ne_of_none e1 nfo
    generalize upd H1 fo (.dK []) = H2 at s2 e2 e21 ⊢
    have hH : ∀ {G : Hp}, Same H G → SqL K G ca (classes.map V.int) ∧ SqL K G la lv := fun sg => ⟨.inl (.inr ⟨co, sg _ _ hc1⟩), .inl (.inr ⟨lo, sg _ _ hl1⟩)⟩
    refine ⟨_, rfl, ca, _, 0, .int c0, rfl, rfl, (hH s2).1, atI_nat (by rw [List.getElem?_map, hc0]; rfl), e2, [(.inl c0, .bl true)], rfl, (by show 1 ≤ 15; decide), ?_⟩
    have s3 : Same H (upd H2 fo (.dK (mergeK [] [(Sum.inl c0, V.bl true)]))) := Same.updn s2 nfo0
    have e3 : upd H2 fo (.dK (mergeK [] [(Sum.inl c0, V.bl true)])) fo = some (.dK (fkv [c0])) := upd_same
    have e31 : upd H2 fo (.dK (mergeK [] [(Sum.inl c0, V.bl true)])) fl = some (.lst ([0].map V.int)) := (upd_ne nff).trans e21
    generalize upd H2 fo (.dK (mergeK [] [(Sum.inl c0, V.bl true)])) = H3 at s3 e3 e31 ⊢
    refine ⟨fun m σ G => ∃ (p : List Int × List Int) (k : Nat) (y z u : Option V), σ = [some (.ref la), some (.ref ca), some (.ref fl), some (.ref fo), some (.int (k : Nat)), y, z, u] ∧ Same H G ∧ G fl = some (.lst (p.1.map V.int)) ∧ G fo = some (.dK (fkv p.2)) ∧ firstsLoop lines classes m k p = some r,
      ⟨_, ([0], [c0]), 0, none, none, none, rfl, s3, e31, e3, hm⟩, ?_⟩
    rintro m σ G ⟨p, k, y, z, u, rfl, sG, g1, g2, hm⟩
    refine ⟨_, rfl, _, rfl, _, _, rfl, .inl ⟨_, SqL.of g1, rfl⟩, _, _, rfl, rfl, _, rfl, ?_⟩
    cases m with
    | zero => cases hm
    | succ n =>
      unfold firstsLoop at hm
      obtain ⟨_, hg2, hm⟩ := bnd_some.mp hm
      have hg2 := grd_some.mp hg2
      rw [Bool.and_eq_true, decide_eq_true_eq, decide_eq_true_eq] at hg2
      obtain ⟨hs1, hs2⟩ := hg2
      cases hk : p.1[k]? with
      | none =>
        rw [hk] at hm
        have hm : some p.1 = some r := hm
        cases hm
        rw [List.getElem?_eq_none_iff] at hk
        have hd : ¬ (k : Int) < (((p.1.map V.int).length : Nat) : Int) := by rw [List.length_map]; omega
        refine iteF' (decide_eq_false hd) ?_
        refine ⟨_, rfl, .inr ⟨fl, _, rfl, g1, True.intro, fun ob => ?_⟩⟩
        exact q fl _ (Same.updn sG nfl) ⟨_, ob, upd_same, ls_ints p.1⟩
      | some c =>
        rw [hk] at hm
        obtain ⟨l, hl, hm⟩ := bnd_some.mp hm
        obtain ⟨p2, hp2, hm⟩ := bnd_some.mp hm
        have lt := get_lt hk
        have hd : (k : Int) < (((p.1.map V.int).length : Nat) : Int) := by rw [List.length_map]; omega
        refine iteT' (decide_eq_true hd) ?_
        refine ⟨_, fun σ' H' h => ⟨n, Nat.lt_succ_self n, h⟩, ?_⟩
        obtain ⟨hc0', hl'⟩ := at_some hl
        obtain ⟨v, hv1, ln, rfl, hln⟩ := hl2.get hl'
        have hln' := hln
        obtain ⟨vs, ol, hn1, hn2⟩ := hln
        have hll := of_decide_eq_true (hg l (List.mem_of_getElem? hl'))
        have hvl := hn2.len
        have hS : ∀ {G : Hp}, Same H G → SqL K G ln vs := fun sg => .inl (.inr ⟨ol, sg _ _ hn1⟩)
        refine ⟨_, rfl, _, rfl, _, rfl, fl, _, (k : Int), .int c, rfl, rfl, SqL.of g1, atI_nat (by rw [List.getElem?_map, hk]; rfl), la, _, c, .ref ln, rfl, rfl, (hH sG).2, atI_of hc0' hv1, ?_⟩
        refine ⟨_, rfl, ln, rfl, ⟨_, hS sG⟩, ?_⟩
        refine for_it (walk_list (K := K) (a := ln) (xs := vs)) (fun i σ G => ∃ (p' : List Int × List Int) (z u : Option V), (l.take i).foldlM (ffS classes) p = some p' ∧ σ = [some (.ref la), some (.ref ca), some (.ref fl), some (.ref fo), some (.int (k : Nat)), some (.ref ln), z, u] ∧ Same H G ∧ G fl = some (.lst (p'.1.map V.int)) ∧ G fo = some (.dK (fkv p'.2)) ∧ p'.1.length ≤ p.1.length + i ∧ p'.2.length = p'.1.length)
          ⟨p, z, u, rfl, rfl, sG, g1, g2, Nat.le_refl _, hs2⟩ (fun i σ G _ ⟨_, _, _, _, _, sg, _⟩ => hS sg) ?_ ?_
        · rintro i x σ G1 G2 hi ⟨p', z, u, hf, rfl, sG1, f1, f2, f3, f4⟩ ⟨rfl, hx⟩
          obtain ⟨e, he⟩ : ∃ e, l[i]? = some e := ⟨l[i]'(by omega), List.getElem?_eq_getElem (by omega)⟩
          obtain ⟨t, rfl, ht⟩ := hn2.at_ i x e hx he
          obtain ⟨p3, hp3, hf3⟩ := foldM_step hp2 he hf
          unfold ffS at hp3
          obtain ⟨c2, hc2', hp3⟩ := bnd_some.mp hp3
          obtain ⟨hc0'', hc2''⟩ := at_some hc2'
          refine ⟨t, _, rfl, sqt_same sG1 ht, rfl, _, _, rfl, _, _, rfl, rfl, ?_⟩
          have hat : atI (classes.map V.int) e.2 = some (.int c2) := atI_of hc0'' (by rw [List.getElem?_map, hc2'']; rfl)
          refine ⟨_, rfl, _, rfl, ca, _, e.2, .int c2, rfl, rfl, (hH sG1).1, hat, _, rfl, fo, _, rfl, DGet.k (k := .inl c2) f2, _, rfl, ?_⟩
          rw [valV_fkv]
          cases ha : p'.2.any fun d => decide (d = c2) with
          | true =>
            rw [ha, if_pos rfl] at hp3
            cases Option.some.inj hp3
            refine iteF' rfl ?_
            exact ⟨p', _, _, hf3, rfl, sG1, f1, f2, by omega, f4⟩
          | false =>
            rw [ha, if_neg Bool.false_ne_true] at hp3
            have hp3 := Option.some.inj hp3
            refine iteT' rfl ?_
            have b1 : p'.2.length < sizeLine := by rw [f4, sizeLine_eq]; omega
            refine ⟨_, rfl, _, rfl, _, rfl, ca, _, e.2, .int c2, rfl, rfl, (hH sG1).1, hat, fo, _, rfl, DPut.k (k := .inl c2) f2 (by rw [List.length_map]; exact b1), ?_⟩
            rw [putK_fkv ha]
            have f5 : upd G2 fo (.dK (fkv (p'.2 ++ [c2]))) fl = some (.lst (p'.1.map V.int)) := (upd_ne nff).trans f1
            refine ⟨_, rfl, .inl ⟨rfl, _, SqL.of f5⟩, _, rfl, fl, _, _, rfl, rfl, f5, by rw [List.length_map, ← f4]; exact b1, ?_⟩
            rw [← hp3] at hf3
            refine ⟨(p'.1 ++ [e.2], p'.2 ++ [c2]), _, _, hf3, rfl, Same.updn (Same.updn sG1 nfo0) nfl, by rw [upd_same, List.map_append]; rfl, (upd_ne nff.symm).trans upd_same, ?_, ?_⟩
            · show (p'.1 ++ [e.2]).length ≤ _
              rw [List.length_append, List.length_singleton]
              omega
            · show (p'.2 ++ [c2]).length = (p'.1 ++ [e.2]).length
              rw [List.length_append, List.length_append, f4]
              rfl
        · rintro σ G1 ⟨p', z, u, hf, rfl, sG1, f1, f2, f3, f4⟩
          have eT : l.take vs.length = l := List.take_of_length_le (by omega)
          rw [eT, hp2] at hf
          cases hf
          exact ⟨_, rfl, _, _, rfl, rfl, p2, k + 1, _, _, _, rfl, sG1, f1, f2, hm⟩
end
end FC
set_option Elab.async false
set_option linter.all false
set_option maxRecDepth 100000
set_option maxHeartbeats 4000000
/-! alike. -/
namespace FC
open PySem PySem.Spec PyProof.Rows L2
def spAlike (K : PySem.W.Frag) : Sp := fun vs H Q _ => ∃ (la : Addr) (lines : List CLine) (r : List Int), vs = [.ref la] ∧ FL (RL (RP K)) H la lines ∧ alike lines = some r ∧ ∀ (t : Addr) H', Same H H' → FL RI H' t r → Q (.ref t) H'
section
variable {P : Program} {w : World} {K : PySem.W.Frag} {mg : Str → Option Value} {base : Heap}
abbrev NAl : List Str := ["lines", "classes", "many", "keys", "numbers", "key", "line", "given", "to"]
theorem scAlike : FnScope NAl ["lines"] (defScope sAlike) := ⟨rfl, rfl, rfl, by decide +kernel, rfl, by decide +kernel, by decide +kernel⟩
/-- a plain pair of numbers; a key of such -/
def RQ (H : Hp) (v : V) (q : Int × Int) : Prop := ∃ t, v = .ref t ∧ H t = some (.tup [.int q.1, .int q.2])
theorem fst_RQ : FSt RQ := fun _ _ _ _ s ⟨t, e, h⟩ => ⟨t, e, s _ _ h True.intro⟩
def RK (H : Hp) (v : V) (k : CLine) : Prop := ∃ b, v = .ref b ∧ FN.NKeyAt H (ctlK k) b
theorem fst_RK : FSt RK := fun _ _ _ _ s ⟨b, e, h⟩ => ⟨b, e, nkey_wk s h⟩
theorem rk_of {H : Hp} {b : Addr} {us : List V} {k : CLine} (h : H b = some (.tup us)) (l : Ls RQ H us k) : RK H (.ref b) k := by
  have hb : ∃ bs : List Addr, us = bs.map V.ref := by
    have : ∀ (us : List V) (k : CLine), Ls RQ H us k → ∃ bs : List Addr, us = bs.map V.ref := by
      intro us
      induction us with
      | nil => exact fun _ _ => ⟨[], rfl⟩
      | cons u us ih =>
        intro k hl
        cases k with
        | nil => have := hl.len; simp at this
        | cons q k =>
          obtain ⟨t, rfl, _⟩ := hl.at_ 0 u q rfl rfl
          obtain ⟨bs, rfl⟩ := ih k ⟨by have := hl.len; simpa using this, fun i v x e1 e2 => hl.at_ (i + 1) v x (by simpa using e1) (by simpa using e2)⟩
          exact ⟨t :: bs, rfl⟩
    exact this us k l
  obtain ⟨bs, rfl⟩ := hb
  refine ⟨b, rfl, bs, h, ?_, fun i c ks h1 h2 => ?_⟩
  · have := l.len
    rw [List.length_map] at this
    unfold ctlK
    rw [List.length_map]
    exact this
  · unfold ctlK at h2
    rw [List.getElem?_map] at h2
    obtain ⟨q, hq, rfl⟩ := Option.map_eq_some_iff.mp h2
    obtain ⟨t, e, ht⟩ := l.at_ i (.ref c) q (by rw [List.getElem?_map, h1]; rfl) hq
    cases e
    exact ht
def NumIs (xs : FN.NXs) (d : List CLine) : Prop := xs.length = d.length ∧ ∀ (i : Nat) (t : CLine), d[i]? = some t → ∃ b, xs[i]? = some (ctlK t, b, .int (i : Nat))
theorem numIs_at {xs : FN.NXs} {d : List CLine} (h : NumIs xs d) (k : CLine) : FN.atN xs (ctlK k) = (d.findIdx? fun e => decide (e = k)).map fun i => V.int ((i : Nat) : Int) := by
  have := atN_idx k d xs 0 h.1 (fun i t e => by rw [Nat.zero_add]; exact h.2 i t e)
  rw [this]
  congr 1
  funext i
  rw [Nat.zero_add]
theorem numIs_some {xs : FN.NXs} {d : List CLine} (h : NumIs xs d) (k : CLine) : (FN.atN xs (ctlK k)).isSome = d.any fun e => decide (e = k) := by
  rw [numIs_at h, Option.isSome_map, List.findIdx?_isSome]
theorem numIs_put {xs : FN.NXs} {d : List CLine} (h : NumIs xs d) {k : CLine} {b : Addr} (hn : FN.atN xs (ctlK k) = none) : NumIs (FN.putN xs (ctlK k) b (.int (xs.length : Nat))) (d ++ [k]) := by
  have e : FN.putN xs (ctlK k) b (.int (xs.length : Nat)) = xs ++ [(ctlK k, b, .int (xs.length : Nat))] := by
    unfold FN.putN
    rw [FN.atN_any, hn]
    rfl
  rw [e]
  refine ⟨by rw [List.length_append, List.length_append, h.1]; rfl, fun i t ht => ?_⟩
  have hl := h.1
  rcases get_snoc ht with ⟨l1, e1⟩ | ⟨l1, e1⟩
  · obtain ⟨c, hc⟩ := h.2 i t e1
    exact ⟨c, by rw [List.getElem?_append_left (by omega)]; exact hc⟩
  · refine ⟨b, ?_⟩
    rw [List.getElem?_append_right (by omega), hl, l1, Nat.sub_self, e1]
    rfl
theorem numbered_snoc (l : List CLine) (k : CLine) : numbered (l ++ [k]) = numS (numbered l) k := by
  unfold numbered
  rw [List.foldl_append]
  rfl
theorem numbered_len : ∀ (l : List CLine), (numbered l).length ≤ l.length := by
  intro l
  have : ∀ (l d : List CLine), (l.foldl numS d).length ≤ d.length + l.length := by
    intro l
    induction l with
    | nil => exact fun d => Nat.le_refl _
    | cons k l ih =>
      intro d
      rw [List.foldl_cons, List.length_cons]
      have h1 := ih (numS d k)
      have h2 : (numS d k).length ≤ d.length + 1 := by
        unfold numS
        split
        · omega
        · rw [List.length_append]; exact Nat.le_refl _
      omega
  have := this l []
  rw [List.length_nil, Nat.zero_add] at this
  exact this
theorem numbered_mem {l : List CLine} {k : CLine} (h : k ∈ l) : ((numbered l).any fun e => decide (e = k)) = true := by
  have go : ∀ (l d : List CLine), (k ∈ l ∨ (d.any fun e => decide (e = k)) = true) → ((l.foldl numS d).any fun e => decide (e = k)) = true := by
    intro l
    induction l with
    | nil => exact fun d h => h.elim (fun z => nomatch z) id
    | cons x l ih =>
      intro d h
      rw [List.foldl_cons]
      refine ih _ ?_
      rcases h with h | h
      · rcases List.mem_cons.mp h with rfl | h
        · right
          unfold numS
          split
          · assumption
          · rw [List.any_append, List.any_cons, decide_eq_true rfl]
            simp
        · exact .inl h
      · right
        unfold numS
        split
        · exact h
        · rw [List.any_append, h]
          rfl
  exact go l [] (.inl h)
theorem ok_alike {f : Addr} {fd : FuncData} (F : Fun K "alike" "alike" sAlike f fd) (B : Blt mg) : FnOk P w K mg base CX0 1 f fd ["lines"] (spAlike K) := by
  refine F.ok scAlike (fun vs H Q E h => ?_) (fun cdv A outer s H vs Q E hr h => ?_)
  · obtain ⟨la, lines, r, rfl, _⟩ := h
    rfl
  · obtain ⟨la, lines, r, rfl, hla, hm, q⟩ := h
    have nd := scAlike.nd
    refine ⟨_, pss_cons (ps_set (i := 1) nd rfl (Or.inr rfl) (pe_frz (pe_op (r := rRep) op_rep (pe_lst (pa_cons pe_int pa_nil)) (pe_callB call_len (by rfl) B.len PySem.boot_len (pa_cons (pv 0) pa_nil)))))
      (pss_cons (ps_set (i := 2) nd rfl (Or.inl rfl) pe_int)
      (pss_cons (ps_while PassesOwn.never (pt_cmp (pc_lt (pv 2) (pe_callB call_len (by rfl) B.len PySem.boot_len (pa_cons (pv 0) pa_nil))))
        (pss_cons (ps_setLc (i := 3) (own := [("line", 6)]) (g := gName 6) (tt := tYes) (te := tCB (fun xs H Q => ∃ p ys, xs = [.ref p] ∧ ((SqL K H p ys ∧ ∀ l, H l = none → Q (.ref l) (upd H l (.tup ys))) ∨ (SqT K H p ys ∧ Q (.ref p) H))) (tCons (tLc (iList K (tVar 6)) (gTup K 2 (gCons (gName 7) (gCons (gName 8) gNil))) tYes (tTup (tCons (tVar 7) (tCons (tOp (rIxL K) (tVar 1) (tVar 8)) tNil))) [7, 8]) tNil)) (by rfl) nd rfl rfl (sw_true rfl rfl rfl (by decide +kernel)) (pi_list (pv 0)) (blkOk_by (own := [("line", 6)]) (N := NAl) (sc := defScope sAlike) (by decide +kernel)) (fun _ _ _ _ _ => pg_name (i := 6) nd rfl (Or.inl rfl))
            (fun _ _ _ _ _ => pts_nil) (fun _ _ _ _ _ => pe_callTy call_tuple_of (by rfl) B.tuple (by decide +kernel) (pa_cons (pe_lc (own := [("given", 7), ("to", 8)]) (by rfl) nd (pi_list (pv 6)) (blkOk_by (own := [("given", 7), ("to", 8)]) (N := NAl) (by rfl)) (fun _ _ _ _ _ => pg_tup rfl (pgs_cons (pg_name (i := 7) nd rfl (Or.inl rfl)) (pgs_cons (pg_name (i := 8) nd rfl (Or.inl rfl)) pgs_nil)))
              (fun _ _ _ _ _ => pts_nil) (fun _ _ _ _ _ => pe_tup (pa_cons (pv 7) (pa_cons (pe_ix (r := rIxL K) ix_list (pv 1) (pv 8) (fun _ _ => rfl)) pa_nil)))) pa_nil)))
        (pss_cons (ps_set (i := 4) nd rfl (Or.inr rfl) FN.pe_nnew)
        (pss_cons (ps_for PassesOwn.never rfl (pi_list (pv 3)) (pg_name (i := 5) nd rfl (Or.inl rfl)) (pss_one (ps_expr (FN.pe_nsetd (hu3_of hr) (pv 4) (pv 5) (pe_callB FN.call_lenN (by rfl) B.len PySem.boot_len (pa_cons (pv 4) pa_nil)) ⟨rfl, rfl, rfl, rfl⟩))))
        (pss_cons (ps_if (pt_cmp (pc_eqI (pe_callB FN.call_lenN (by rfl) B.len PySem.boot_len (pa_cons (pv 4) pa_nil)) (pv 2))) (pss_one ps_break) pss_nil)
        (pss_cons (ps_set (i := 2) nd rfl (Or.inl rfl) (pe_callB FN.call_lenN (by rfl) B.len PySem.boot_len (pa_cons (pv 4) pa_nil)))
        (pss_one (ps_set (i := 1) nd rfl (Or.inr rfl) (pe_frz (pe_lc (own := [("key", 5)]) (g := gName 5) (tt := tYes) (te := FN.tNGet P w (tVar 4) (tVar 5)) (by rfl) nd (pi_list (pv 3)) (blkOk_by (own := [("key", 5)]) (N := NAl) (sc := defScope sAlike) (by decide +kernel)) (fun _ _ _ _ _ => pg_name (i := 5) nd rfl (Or.inl rfl))
            (fun _ _ _ _ _ => pts_nil) (fun _ _ _ _ _ => FN.pe_nget (hu3_of hr) (pv 4) (pv 5) (fun _ _ => rfl))))))))))))
      (pss_one (ps_ret (pv 1))))), ?_⟩
    unfold alike at hm
    obtain ⟨_, hg, hm⟩ := bnd_some.mp hm
    have hg := grd_some.mp hg
    rw [Bool.and_eq_true, decide_eq_true_eq, List.all_eq_true] at hg
    obtain ⟨hg1, hg2⟩ := hg
    obtain ⟨lv, lo, hl1, hl2⟩ := hla
    have hlv := hl2.len
    have hL : ∀ {G : Hp}, Same H G → SqL K G la lv := fun sg => .inl (.inr ⟨lo, sg _ _ hl1⟩)
    refine ⟨(by show 1 ≤ sizeLine; decide), fun z nz => ?_⟩
    have s1 := same_upd (o := .lst [V.int 0]) (Same.refl H) nz
    have e1 : upd H z (.lst [V.int 0]) z = some (.lst [V.int 0]) := upd_same
    generalize upd H z (.lst [V.int 0]) = H1 at s1 e1 ⊢
    have hsz : 200000 < sizeLine := by rw [sizeLine_eq]; omega
    refine ⟨_, rfl, _, _, rfl, .inl ⟨_, hL s1, rfl⟩, z, _, _, rfl, rfl, e1, by omega, by omega, ?_, fun ca nca => .inr ⟨ca, _, rfl, upd_same, True.intro, fun ob => ?_⟩⟩
    · rw [List.length_singleton, Int.toNat_natCast]
      omega
    rw [upd_upd]
    have s2 : Same H (upd H1 ca (.frz ob (.lst (List.replicate ((lv.length : Nat) : Int).toNat [V.int 0]).flatten))) := Same.updn s1 (none_same s1 nca)
    have f2 : FL RI (upd H1 ca (.frz ob (.lst (List.replicate ((lv.length : Nat) : Int).toNat [V.int 0]).flatten))) ca (lines.map fun _ => 0) := by
      refine ⟨_, ob, upd_same, ?_⟩
      have e : (List.replicate ((lv.length : Nat) : Int).toNat [V.int 0]).flatten = (lines.map fun _ => (0 : Int)).map V.int := by
        rw [Int.toNat_natCast, List.flatten_replicate_singleton, hlv, List.map_const', List.map_replicate]
      rw [e]
      exact ls_ints _
    generalize upd H1 ca (.frz ob (.lst (List.replicate ((lv.length : Nat) : Int).toNat [V.int 0]).flatten)) = H2 at s2 f2 ⊢
    refine ⟨fun m σ G => ∃ (classes : List Int) (many : Nat) (ca : Addr) (y3 y4 y5 : Option V), σ = [some (.ref la), some (.ref ca), some (.int (many : Nat)), y3, y4, y5, none, none, none] ∧ Same H G ∧ FL RI G ca classes ∧ aliveLoop lines m many classes = some r,
      ⟨_, _, 0, ca, none, none, none, rfl, s2, f2, hm⟩, ?_⟩
    clear s2 f2 hm
    rintro m σ G ⟨classes, many, ca, y3, y4, y5, rfl, sG, fG, hm⟩
    refine ⟨_, rfl, _, rfl, _, _, rfl, .inl ⟨_, hL sG, rfl⟩, _, _, rfl, rfl, _, rfl, ?_⟩
    cases m with
    | zero => cases hm
    | succ n =>
      unfold aliveLoop at hm
      by_cases hlt : many < lines.length
      · rw [if_pos hlt] at hm
        have hd : ((many : Nat) : Int) < ((lv.length : Nat) : Int) := by omega
        refine iteT' (decide_eq_true hd) ?_
        refine ⟨_, fun σ' H' h => ⟨n, Nat.lt_succ_self n, h⟩, ?_⟩
        obtain ⟨keys, hkeys, hm⟩ := bnd_some.mp hm
        obtain ⟨hkl, hka⟩ := mapM_get hkeys
        obtain ⟨cv, co, hc1, hc2⟩ := fG
        have ecv := ls_int hc2
        subst ecv
        refine ⟨_, rfl, la, rfl, ⟨_, hL sG⟩, fun kl nkl => ?_⟩
        refine lc_ls (R := RK) (walk_list (K := K) (a := la) (xs := lv)) fst_RK keys (by omega) (by omega) nkl (fun G2 s2 => hL (Same.trans sG s2)) ?_ ?_
        · rintro i x y G2 G3 Nx hy s2 ⟨rfl, hx⟩ fin
          have sx := Same.trans sG s2
          obtain ⟨l, hl⟩ : ∃ l, lines[i]? = some l := ⟨lines[i]'(by have := get_lt hy; omega), List.getElem?_eq_getElem (by have := get_lt hy; omega)⟩
          obtain ⟨y', hy', hy2⟩ := hka i l hl
          rw [hy] at hy2
          obtain rfl := Option.some.inj hy2
          obtain ⟨hyl, hya⟩ := mapM_get hy'
          obtain ⟨ln, rfl, vs, ol, hn1, hn2⟩ := hl2.at_ i x l hx hl
          have hvl := hn2.len
          have hll := of_decide_eq_true (hg2 l (List.mem_of_getElem? hl))
          have hn1' := sx _ _ hn1
          refine ⟨rfl, _, rfl, ln, rfl, ⟨_, .inl (.inr ⟨ol, hn1'⟩)⟩, fun D2 hD2 => ?_⟩
          refine lc_ls (R := RQ) (walk_list (K := K) (a := ln) (xs := vs)) fst_RQ y (by omega) (by omega) hD2 (fun G4 s4 => .inl (.inr ⟨ol, s4 _ _ hn1'⟩)) ?_ ?_
          · rintro i2 x2 y2 G4 G5 Nx2 hy2 s4 ⟨rfl, hx2⟩ fin2
            obtain ⟨e, he⟩ : ∃ e, l[i2]? = some e := ⟨l[i2]'(by have := get_lt hy2; omega), List.getElem?_eq_getElem (by have := get_lt hy2; omega)⟩
            obtain ⟨y3', hy3, hy4⟩ := hya i2 e he
            rw [hy2] at hy4
            obtain rfl := Option.some.inj hy4
            unfold keyE at hy3
            obtain ⟨c, hc, hy3⟩ := bnd_some.mp hy3
            obtain rfl := Option.some.inj hy3
            obtain ⟨hc0, hc⟩ := at_some hc
            obtain ⟨t, rfl, ht⟩ := hn2.at_ i2 x2 e hx2 he
            have sy := Same.trans sx s4
            refine ⟨t, _, rfl, sqt_same sy ht, rfl, _, _, rfl, _, _, rfl, rfl, ?_⟩
            refine ⟨rfl, _, rfl, _, rfl, _, rfl, ca, _, e.2, .int c, rfl, rfl, .inl (.inr ⟨co, Same.trans s2 s4 _ _ hc1⟩), atI_of hc0 (by rw [List.getElem?_map, hc]; rfl), (by show 2 ≤ sizeLine; decide), fun tt ntt => ?_⟩
            exact fin2 _ _ (same_upd (Same.refl _) ntt) ⟨tt, rfl, upd_same⟩
          · intro G4 us s4 hus hls
            refine ⟨D2, us, rfl, .inl ⟨SqL.of hus, fun kt nkt => ?_⟩⟩
            have s5 := same_upd (o := .tup us) (Same.refl G4) nkt
            exact fin _ _ (Same.trans s4 s5) (rk_of upd_same (hls.fch fst_RQ (Fch.of s5)))
        · intro G3 us s3 hus hls
          intro nm nnm
          have sx := Same.trans sG s3
          have s4 := same_upd (o := FN.NHO P w nm []) (Same.refl G3) nnm
          have nd4 : FN.ND P w (upd G3 nm (FN.NHO P w nm [])) nm [] := ⟨upd_same, fun x hx => nomatch hx⟩
          have hul := hls.len
          obtain ⟨G4, e4⟩ : ∃ G4, G4 = upd G3 nm (FN.NHO P w nm []) := ⟨_, rfl⟩
          rw [← e4] at s4 nd4
          refine h_swap (T := fun G => gName 4 _ _ G _) e4 ?_
          have nnmG := none_same s3 nnm
          have nnmH := none_same sG nnmG
          have sH4 := Same.trans sx s4
          have hks := s4 _ _ hus
          have hls4 := hls.fch fst_RK (Fch.of s4)
          refine ⟨_, rfl, kl, rfl, ⟨_, SqL.of hks⟩, ?_⟩
          have nkm : kl ≠ nm := ne_of_none hus nnm
          refine for_it (walk_list (K := K) (a := kl) (xs := us)) (fun i σ G' => ∃ (xs : FN.NXs) (y5 : Option V), σ = [some (.ref la), some (.ref ca), some (.int (many : Nat)), some (.ref kl), some (.ref nm), y5, none, none, none] ∧ FN.ND P w G' nm xs ∧ NumIs xs (numbered (keys.take i)) ∧ OffD nm G4 G')
            ⟨[], _, rfl, nd4, ⟨rfl, fun i t e => by rw [List.take_zero] at e; simp [numbered] at e⟩, fun _ _ _ h => h⟩ (fun i σ G' _ ⟨_, _, _, _, _, o⟩ => SqL.of (o _ _ nkm hks)) ?_ ?_
          · rintro i x σ G5 G6 hi ⟨xs, y5, rfl, nd5, ni, o5⟩ ⟨rfl, hx⟩
            obtain ⟨k, hk⟩ : ∃ k, keys[i]? = some k := ⟨keys[i]'(by omega), List.getElem?_eq_getElem (by omega)⟩
            have oc : Och nm G4 G6 := ⟨o5, ⟨_, nd4.1, True.intro⟩⟩
            obtain ⟨b, rfl, hb⟩ := fst_RK _ _ _ _ oc.fch.wk (hls4.at_ i x k hx hk)
            have ni1 := ni.1
            have hb1 := numbered_len (keys.take i)
            have hb2 : (keys.take i).length ≤ keys.length := by rw [List.length_take]; omega
            refine ⟨_, rfl, nm, rfl, ⟨xs, nd5⟩, _, rfl, _, rfl, _, _, rfl, nd5, b, xs, ctlK k, rfl, nd5, hb, by omega, fun v hv => ?_, fun hn => ?_⟩
            · refine ⟨xs, _, rfl, nd5, ?_, o5⟩
              rw [take_succ_get hk, numbered_snoc]
              unfold numS
              rw [← numIs_some ni, hv]
              exact ni
            · refine ⟨_, _, rfl, nd5.put hb _, ?_, OffD.upd o5⟩
              have hp := numIs_put (b := b) ni hn
              rw [take_succ_get hk, numbered_snoc]
              unfold numS
              rw [← numIs_some ni, hn]
              exact hp
          · rintro σ G5 ⟨xs, y5, rfl, nd5, ni, o5⟩
            have eT : keys.take us.length = keys := List.take_of_length_le (by omega)
            rw [eT] at ni
            have ni1 := ni.1
            have sH5 : Same H G5 := fun b o h => o5 b o (ne_of_none h nnmH) (sH4 b o h)
            have hc5 : G5 ca = some (.frz co (.lst (classes.map V.int))) := o5 _ _ (ne_of_none hc1 nnmG) (s4 _ _ (s3 _ _ hc1))
            have oc : Och nm G4 G5 := ⟨o5, ⟨_, nd4.1, True.intro⟩⟩
            have hks5 := o5 _ _ nkm hks
            have hls5 := hls4.fch fst_RK oc.fch
            refine ⟨_, rfl, _, _, rfl, nd5, _, rfl, _, _, rfl, rfl, _, rfl, ?_⟩
            by_cases hmany : (numbered keys).length = many
            · rw [if_pos hmany] at hm
              cases Option.some.inj hm
              refine iteT' (decide_eq_true (by omega)) ?_
              exact ⟨_, rfl, q ca G5 sH5 ⟨_, co, hc5, ls_ints _⟩⟩
            · rw [if_neg hmany] at hm
              refine iteF' (decide_eq_false (by omega)) ?_
              refine ⟨_, rfl, _, _, rfl, nd5, ?_⟩
              refine ⟨_, rfl, kl, rfl, ⟨_, SqL.of hks5⟩, fun D3 hD3 => ?_⟩
              refine lc_ls (R := RI) (walk_list (K := K) (a := kl) (xs := us)) fst_RI (keys.map (numOf (numbered keys))) (by rw [List.length_map]; omega) (by omega) hD3 (fun G6 s6 => SqL.of (s6 _ _ hks5)) ?_ ?_
              · rintro i x y G6 G7 Nx hy s6 ⟨rfl, hx⟩ fin
                rw [List.getElem?_map] at hy
                obtain ⟨k, hk, rfl⟩ := Option.map_eq_some_iff.mp hy
                obtain ⟨b, rfl, hb⟩ := fst_RK _ _ _ _ (Wk.of s6) (hls5.at_ i x k hx hk)
                have nd6 := nd5.keeps s6
                have hat := numIs_at ni k
                obtain ⟨j, hj⟩ : ∃ j, (numbered keys).findIdx? (fun e => decide (e = k)) = some j := by
                  have := numbered_mem (List.mem_of_getElem? hk)
                  rw [← List.findIdx?_isSome] at this
                  exact Option.isSome_iff_exists.mp this
                have ej : numOf (numbered keys) k = (j : Int) := by
                  unfold numOf
                  rw [List.findIdx?_eq_some_iff_findIdx_eq] at hj
                  rw [hj.2]
                rw [hj] at hat
                refine ⟨rfl, _, rfl, _, rfl, nm, b, xs, ctlK k, .int (j : Nat), rfl, rfl, nd6, hb, hat, ?_⟩
                exact fin _ _ (Same.refl _) (by rw [ej]; rfl)
              · intro G6 us6 s6 hus6 hls6
                refine .inr ⟨D3, _, rfl, hus6, True.intro, fun ob => ?_⟩
                have sH6 := Same.trans sH5 s6
                have hD3H := none_same sH5 hD3
                refine ⟨keys.map (numOf (numbered keys)), (numbered keys).length, D3, some (.ref kl), some (.ref nm), y5, ?_, Same.updn sH6 hD3H, ⟨us6, ob, upd_same, ⟨hls6.len, hls6.at_⟩⟩, hm⟩
                rw [ni1]
                rfl
      · rw [if_neg hlt] at hm
        have hd : ¬ ((many : Nat) : Int) < ((lv.length : Nat) : Int) := by omega
        refine iteF' (decide_eq_false hd) ?_
        cases Option.some.inj hm
        exact ⟨_, rfl, q ca G sG fG⟩
end
end FC
set_option Elab.async false
set_option linter.all false
set_option maxRecDepth 100000
set_option maxHeartbeats 4000000
/-! Freezing after a statement; comprehensions of new places; groups in the heap. -/
namespace FC
open PySem PySem.Spec PyProof.Rows L2
/-- Q, once some places are held still for good -/
inductive Fz (Q : Hp → Prop) : Hp → Prop
  | done {H : Hp} : Q H → Fz Q H
  | step {H : Hp} {a : Addr} {u : HO} : H a = some u → Mut (some u) → (∀ o, Fz Q (upd H a (.frz o u))) → Fz Q H
theorem Fz.run {Q : Hp → Prop} {H : Hp} (f : Fz Q H) {X : Cx} {pins : List (Addr × Obj)} {σ : L2.St} {s : Shared} (I : Inv X pins σ H s) : ∃ H', Inv X pins σ H' s ∧ Q H' := by
  induction f with
  | done q => exact ⟨_, I, q⟩
  | step h mu _ ih =>
    obtain ⟨od, I2⟩ := I.lock h mu
    exact ih od I2
theorem ps_fz {X : Cx} {st : Stmt} {t : TS} (h : PS X st t) : PS X st (fun D σ H => t { D with nx := fun σ' H' => Fz (D.nx σ') H' } σ H) := by
  refine ⟨fun pins s σ H D I hw => thn (h.run pins s σ H _ I hw) fun f s1 x => ?_⟩
  cases f with
  | next =>
    obtain ⟨σ', H', I', q⟩ := x
    obtain ⟨H2, I2, q2⟩ := q.run I'
    exact ⟨σ', H2, I2, q2⟩
  | brk => exact x
  | cont => exact x
  | ret u => exact x
theorem fz_all {Q : Hp → Prop} : ∀ (as : List Addr) (H : Hp), as.Nodup → (∀ a ∈ as, ∃ xs, H a = some (.lst xs)) → (∀ H', (∀ b, b ∉ as → H' b = H b) → (∀ a ∈ as, ∀ xs, H a = some (.lst xs) → ∃ o, H' a = some (.frz o (.lst xs))) → Q H') → Fz Q H
  | [], H, _, _, q => .done (q H (fun _ _ => rfl) (fun a h => nomatch h))
  | a :: as, H, nd, hl, q => by
    obtain ⟨n1, n2⟩ := List.nodup_cons.mp nd
    obtain ⟨xs, hx⟩ := hl a List.mem_cons_self
    refine .step hx True.intro fun o => fz_all as _ n2 (fun b hb => ?_) fun H' h1 h2 => ?_
    · obtain ⟨ys, hy⟩ := hl b (List.mem_cons_of_mem _ hb)
      exact ⟨ys, (upd_ne (fun z => n1 (by rw [← z]; exact hb))).trans hy⟩
    · refine q H' (fun b hb => ?_) fun b hb ys hy => ?_
      · rw [h1 b (fun z => hb (List.mem_cons_of_mem _ z)), upd_ne (fun z => hb (by rw [z]; exact List.mem_cons_self))]
      · rcases List.mem_cons.mp hb with rfl | hb
        · rw [hx] at hy
          cases Option.some.inj hy
          exact ⟨o, by rw [h1 b n1, upd_same]⟩
        · exact h2 b hb ys ((upd_ne (fun z => n1 (by rw [← z]; exact hb))).trans hy)
/-- new places, one for each -/
structure Nw {α : Type} (U : Hp → Addr → α → Prop) (H0 H : Hp) (bs : List Addr) (l : List α) : Prop where
  len : bs.length = l.length
  nd : bs.Nodup
  new : ∀ b ∈ bs, H0 b = none
  at_ : ∀ (i : Nat) (b : Addr) (x : α), bs[i]? = some b → l[i]? = some x → U H b x
/-- [.. for x in ..], each a new place -/
theorem lc_new {α : Type} {J : It} {n : Nat} {G : Hp → Prop} {Y : Nat → Hp → V → Hp → Prop} (wk : Walk J n G Y) {g : TG} {tt : TT} {te : TE} {vs : List Nat} {σ : L2.St} {H1 : Hp} {D : Addr} {Qd : Hp → Prop} {U : Hp → Addr → α → Prop} (hS : ∀ H H' b x, Same H H' → U H b x → U H' b x) (hO : ∀ d H H' b x, Och d H H' → d ≠ b → U H b x → U H' b x) (hU : ∀ H b x, U H b x → ∃ o, H b = some o)
    (r : List α) (hr : r.length = n) (hn : n < sizeLine) (hD : H1 D = none) (hG : ∀ H, Same H1 H → G H)
    (st : ∀ i x y H H' (Nx : Hp → Prop), r[i]? = some y → Same H1 H → Y i H x H' → (∀ b H4, Same H H4 → H b = none → U H4 b y → ∃ ys, H4 D = some (.lst ys) ∧ ys.length < sizeLine ∧ Nx (upd H4 D (.lst (ys ++ [.ref b])))) →
      g x (wipe σ vs) H' fun σ2 H2 => wipe σ2 vs = wipe σ vs ∧ tt σ2 H2 fun b H3 => if b = true then te σ2 H3 fun y H4 => ∃ ys, H4 D = some (.lst ys) ∧ ys.length < sizeLine ∧ Nx (upd H4 D (.lst (ys ++ [y]))) else Nx H3)
    (fin : ∀ H bs, Same H1 H → H D = some (.lst (bs.map V.ref)) → Nw U H1 H bs r → D ∉ bs → Qd H) : ∃ W : Nat → Nat → Hp → Prop, (∃ m, W 0 m (upd H1 D (.lst []))) ∧ ∀ i m H, W i m H →
  (J.stop i H ∧ Qd H) ∨ (J.go i H ∧ ∃ Nx : Hp → Prop, (∀ H', Nx H' → ∃ m', m' < m ∧ W (i + 1) m' H') ∧ ∀ x H', J.yld i H x H' → g x (wipe σ vs) H' fun σ2 H2 => wipe σ2 vs = wipe σ vs ∧ tt σ2 H2 fun b H3 =>
    if b = true then te σ2 H3 fun y H4 => ∃ ys, H4 D = some (.lst ys) ∧ ys.length < sizeLine ∧ Nx (upd H4 D (.lst (ys ++ [y]))) else Nx H3) := by
  refine lc_it wk (fun i H => Same H1 H ∧ ∃ bs, H D = some (.lst (bs.map V.ref)) ∧ Nw U H1 H bs (r.take i) ∧ D ∉ bs) ⟨same_upd (Same.refl H1) hD, [], upd_same, ⟨by rw [List.take_zero]; rfl, List.nodup_nil, fun b h => (nomatch h), fun i b x e => by simp at e⟩, fun h => nomatch h⟩ (fun i H _ p => hG H p.1) ?_ ?_
  · rintro i x H H' hi ⟨s1, bs, hus, hN, hDb⟩ hy
    obtain ⟨y, hyy⟩ : ∃ y, r[i]? = some y := ⟨r[i]'(by omega), List.getElem?_eq_getElem (by omega)⟩
    refine st i x y H H' _ hyy s1 hy fun b H4 s4 hb hu => ?_
    have e4 := s4 _ _ hus
    have hl := hN.len
    have hlt : (r.take i).length ≤ i := by rw [List.length_take]; omega
    have oc : Och D H4 (upd H4 D (.lst (bs.map V.ref ++ [V.ref b]))) := ⟨OffD.upd (fun _ _ _ h => h), ⟨_, e4, True.intro⟩⟩
    have hbD : b ≠ D := fun z => by rw [z, hus] at hb; cases hb
    have hbn : b ∉ bs := fun z => by
      obtain ⟨j, hj⟩ := List.getElem?_of_mem z
      have lt := get_lt hj
      obtain ⟨o, ho⟩ := hU _ _ _ (hN.at_ j b _ hj (List.getElem?_eq_getElem (by omega)))
      rw [ho] at hb
      cases hb
    refine ⟨_, e4, by rw [List.length_map]; omega, fun c o hc => ?_, bs ++ [b], by rw [upd_same, List.map_append]; rfl, ⟨?_, ?_, fun c hc => ?_, fun j c z h1 h2 => ?_⟩, ?_⟩
    · rw [upd_ne (ne_of_none hc hD)]
      exact s4 _ _ (s1 _ _ hc)
    · rw [take_succ_get hyy, List.length_append, List.length_append, hl]
      rfl
    · rw [List.nodup_append]
      exact ⟨hN.nd, by simp, fun c hc d hd => by rw [List.mem_singleton.mp hd]; exact fun z => hbn (by rw [← z]; exact hc)⟩
    · rcases List.mem_append.mp hc with hc | hc
      · exact hN.new c hc
      · rw [List.mem_singleton.mp hc]
        exact none_same s1 hb
    · rw [take_succ_get hyy] at h2
      rcases get_snoc h1 with ⟨l1, h1⟩ | ⟨l1, h3⟩
      · rw [List.getElem?_append_left (by omega)] at h2
        exact hO _ _ _ _ _ oc (fun z => hDb (by rw [z]; exact List.mem_of_getElem? h1)) (hS _ _ _ _ s4 (hN.at_ j c z h1 h2))
      · rw [List.getElem?_append_right (by omega), l1, hl, Nat.sub_self] at h2
        obtain rfl : y = z := Option.some.inj h2
        rw [← h3]
        exact hO _ _ _ _ _ oc hbD.symm hu
    · intro z
      rcases List.mem_append.mp z with z | z
      · exact hDb z
      · exact hbD (List.mem_singleton.mp z).symm
  · rintro H ⟨s1, bs, hus, hN, hDb⟩
    rw [← hr, List.take_length] at hN
    exact fin H bs s1 hus hN hDb
/-- .. as empty lists -/
def UE (H : Hp) (b : Addr) (l : List V) : Prop := H b = some (.lst l)
/-- groups -/
def GrpAt (K : PySem.W.Frag) (GCl : Addr) (H : Hp) (ga : Addr) (G : Grp) : Prop := ∃ dx fa oa ca aa, H ga = some (.ins GCl dx [("firsts", .ref fa), ("of_control", .ref oa), ("counts", .ref ca), ("anchors", .ref aa)]) ∧ FL RI H fa G.firsts ∧ FL RI H oa G.ofControl ∧ FL (RT K (RP K)) H ca G.counts ∧ FL (RL RI) H aa G.anchors
theorem GrpAt.fch {K : PySem.W.Frag} {GCl : Addr} {H H' : Hp} {ga : Addr} {G : Grp} (s : Fch H H') (h : GrpAt K GCl H ga G) : GrpAt K GCl H' ga G := by
  obtain ⟨dx, fa, oa, ca, aa, h1, h2, h3, h4, h5⟩ := h
  exact ⟨dx, fa, oa, ca, aa, s _ _ h1 id, h2.fch fst_RI s, h3.fch fst_RI s, h4.fch (fst_RT fst_RP) s, h5.fch (fst_RL fst_RI) s⟩
/-- the class's facts -/
structure GrT (K : PySem.W.Frag) (C : Addr) : Prop where
  cl : Cls K C
  nf : NoAttr K C "firsts"
  no : NoAttr K C "of_control"
  nc : NoAttr K C "counts"
  na : NoAttr K C "anchors"
section
variable {P : Program} {w : World} {K : PySem.W.Frag} {SC MCl : Addr} {H H' : Hp} {a d C dx : Addr} {X : MC} {ps : List Stp} {M : Mac}
/-- an empty instance elsewhere changes -/
theorem mac_ins (h : MacAt P w K SC MCl H a X ps M) (hd : H d = some (.ins C dx [])) (o : OffD d H H') : MacAt P w K SC MCl H' a X ps M := by
  have k : ∀ {z : Addr} {u : HO}, H z = some u → u ≠ .ins C dx [] → H' z = some u := fun {z u} hz n => o z u (fun e => n (by rw [e, hd] at hz; exact (Option.some.inj hz).symm)) hz
  have kt : ∀ {z : Addr} {xs : List V}, SqT K H z xs → SqT K H' z xs := fun {z xs} h => by
    rcases h with (h | ⟨o, h⟩) | h
    · exact .inl (.inl (k h (fun e => nomatch e)))
    · exact .inl (.inr ⟨o, k h (fun e => nomatch e)⟩)
    · exact .inr h
  have kv : ∀ {z : Addr} {v : Vec}, VecF H z v → VecF H' z v := fun {z v} ⟨⟨o, e⟩, dd⟩ => ⟨⟨o, k e (fun e => nomatch e)⟩, dd⟩
  obtain ⟨⟨dx, h1⟩, h2, h3, ⟨om, h4⟩, h5, ⟨xs, h6, h7, h8⟩, ⟨h9, h10, h11⟩, ⟨h12, h13, h14⟩, ⟨h15, h16, h17⟩, ⟨h18, h19, h20⟩, h21, h22⟩ := h
  refine ⟨⟨dx, k h1 (fun e => nomatch e)⟩, ?_, h3, ⟨om, k h4 (fun e => nomatch e)⟩, h5, ⟨xs, ⟨k h6.1 (fun e => nomatch e), fun x hx => ?_⟩, h7, h8⟩, ⟨k h9 (fun e => nomatch e), h10, fun i p S e1 e2 => ?_⟩, ⟨k h12 (fun e => nomatch e), h13, fun i b st e1 e2 => ?_⟩,
    ⟨k h15 (fun e => nomatch e), h16, fun i b l e1 e2 => k (h17 i b l e1 e2) (fun e => nomatch e)⟩, ⟨k h18 (fun e => nomatch e), h19, fun i b l e1 e2 => ?_⟩, h21, h22⟩
  · obtain ⟨xs, x1, x2, x3⟩ := h2
    refine ⟨xs, kt x1, x2, fun i x p hx hp => ?_⟩
    obtain ⟨b, y1, y2⟩ := x3 i x p hx hp
    exact ⟨b, y1, kt y2⟩
  · obtain ⟨bs, y1, y2, y3⟩ := h6.2 x hx
    exact ⟨bs, k y1 (fun e => nomatch e), y2, fun i c ks e1 e2 => k (y3 i c ks e1 e2) (fun e => nomatch e)⟩
  · obtain ⟨⟨dx, y1⟩, ⟨L, y2, y3, y4⟩, y5⟩ := h11 i p S e1 e2
    exact ⟨⟨dx, k y1 (fun e => nomatch e)⟩, ⟨L, k y2 (fun e => nomatch e), y3, fun x hx => kv (y4 x hx)⟩, y5⟩
  · obtain ⟨row, e, xs, y1, y2, y3⟩ := h14 i b st e1 e2
    refine ⟨row, e, xs, kt y1, y2, fun i x p hx hp => ?_⟩
    obtain ⟨b, z1, z2⟩ := y3 i x p hx hp
    exact ⟨b, z1, kt z2⟩
  · obtain ⟨xs, ⟨o, y1⟩, y2, y3⟩ := h20 i b l e1 e2
    refine ⟨xs, ⟨o, k y1 (fun e => nomatch e)⟩, y2, fun i x e hx he => ?_⟩
    obtain ⟨b, e1, g, bl, m1, m2, ⟨dd, m3, m4⟩⟩ := y3 i x e hx he
    exact ⟨b, e1, g, bl, kt m1, kt m2, dd, kt m3, kv m4⟩
end
end FC
set_option Elab.async false
set_option linter.all false
set_option maxRecDepth 100000
set_option maxHeartbeats 4000000
/-! Groups.__init__. -/
namespace FC
open PySem PySem.Spec PyProof.Rows L2
abbrev grM (i : Nat) : Stmt := inClass sGroups i
def spGrpI (P : Program) (w : World) (K : PySem.W.Frag) (SC MCl GCl : Addr) : Sp := fun vs H Q _ => ∃ (ga ma dx : Addr) (X : MC) (ps : List Stp) (M : Mac) (G : Grp), vs = [.ref ga, .ref ma] ∧ H ga = some (.ins GCl dx []) ∧ MacAt P w K SC MCl H ma X ps M ∧ groups M (moduliOf ps).2 = some G ∧
  ∀ H', GrpAt K GCl H' ga G → OffD ga H H' → Q .non H'
section
variable {P : Program} {w : World} {K : PySem.W.Frag} {mg : Str → Option Value} {base : Heap} {SC MCl GCl : Addr}
abbrev NGi : List Str := ["self", "machine", "lines", "classes", "numbers", "members", "group", "at", "control", "found", "many", "behind", "_"]
theorem scGrpI : FnScope NGi ["self", "machine"] (defScope (grM 0)) := ⟨rfl, rfl, rfl, by decide +kernel, rfl, by decide +kernel, by decide +kernel⟩
theorem ok_grpI {f : Addr} {fd : FuncData} (F : Fun K "__init__" "Groups.__init__" (grM 0) f fd) (T : McT K MCl) (TG : GrT K GCl) (B : Blt mg)
    (CC : Cal P w K mg base CX0 1 "count_line" ["machine", "anchor"] (spCountLine P w K SC MCl)) (CA : Cal P w K mg base CX0 1 "alike" ["lines"] (spAlike K)) (CF : Cal P w K mg base CX0 1 "firsts_found" ["lines", "classes"] (spFirsts K)) (mE : mg "enumerate" = none) (mZ : mg "zip" = none) :
    FnOk P w K mg base CX0 2 f fd ["self", "machine"] (spGrpI P w K SC MCl GCl) := by
  refine F.ok scGrpI (fun vs H Q E h => ?_) (fun cdv A outer s H vs Q E hr h => ?_)
  · obtain ⟨ga, ma, dx, X, ps, M, G, rfl, _⟩ := h
    rfl
  · obtain ⟨ga, ma, dx, X, ps, M, G, rfl, hi, hM, hm, q⟩ := h
    have nd := scGrpI.nd
    have hr1 : Room 1 _ := hr.mono (by decide)
    refine ⟨_, pss_cons (ps_set (i := 2) nd rfl (Or.inr rfl) (pe_frz (pe_lc (own := [("members", 5)]) (g := gName 5) (tt := tYes) (te := tCal (spCountLine P w K SC MCl) E0 (tCons (tVar 1) (tCons (tOp (rIxL K) (tVar 5) (tC (.int 0))) tNil))) (by rfl) nd (pi_list (pe_fld (pv 1) rfl)) (blkOk_by (own := [("members", 5)]) (N := NGi) (sc := defScope (grM 0)) (by decide +kernel)) (fun _ _ _ _ _ => pg_name (i := 5) nd rfl (Or.inl rfl))
            (fun _ _ _ _ _ => pts_nil) (fun _ _ _ _ _ => pe_cal CC hr1 pass0 (pa_cons (pv 1) (pa_cons (pe_ix (r := rIxL K) ix_list (pv 5) pe_int (fun _ _ => rfl)) pa_nil))))))
      (pss_cons (ps_set (i := 3) nd rfl (Or.inr rfl) (pe_cal CA hr1 pass0 (pa_cons (pv 2) pa_nil)))
      (pss_cons (ps_fld (pv 0) (pe_cal CF hr1 pass0 (pa_cons (pv 2) (pa_cons (pv 3) pa_nil))) rfl)
      (pss_cons (ps_set (i := 4) nd rfl (Or.inr rfl) (pe_frz (pe_dc (own := [("at", 7), ("control", 8)]) (g := gTup K 2 (gCons (gName 7) (gCons (gName 8) gNil))) (tt := tYes) (tk := tOp (rIxL K) (tVar 3) (tVar 8)) (tv := tVar 7) rfl nd (pi_enum (by rfl) mE (pa_cons (pe_fld (pv 0) rfl) pa_nil)) (blkOk_by (own := [("at", 7), ("control", 8)]) (N := NGi) (sc := defScope (grM 0)) (by decide +kernel))
            (fun _ _ _ _ _ => pg_tup rfl (pgs_cons (pg_name (i := 7) nd rfl (Or.inl rfl)) (pgs_cons (pg_name (i := 8) nd rfl (Or.inl rfl)) pgs_nil)))
            (fun _ _ _ _ _ => pts_nil) (fun _ _ _ _ _ => pe_ix (r := rIxL K) ix_list (pv 3) (pv 8) (fun _ _ => rfl)) (fun _ _ _ _ _ => pv 7))))
      (pss_cons (ps_fld (pv 0) (pe_frz (pe_lc (own := [("found", 9)]) (g := gName 9) (tt := tYes) (te := tDGet (tVar 4) (tVar 9)) (by rfl) nd (pi_list (pv 3)) (blkOk_by (own := [("found", 9)]) (N := NGi) (sc := defScope (grM 0)) (by decide +kernel)) (fun _ _ _ _ _ => pg_name (i := 9) nd rfl (Or.inl rfl))
            (fun _ _ _ _ _ => pts_nil) (fun _ _ _ _ _ => pe_dget (hu_of hr) (pv 4) (pv 9) (fun _ _ => rfl)))) rfl)
      (pss_cons (ps_fld (pv 0) (pe_frz (pe_lc (own := [("control", 8)]) (g := gName 8) (tt := tYes) (te := tCB (fun xs H Q => ∃ p ys, xs = [.ref p] ∧ ((SqL K H p ys ∧ ∀ l, H l = none → Q (.ref l) (upd H l (.tup ys))) ∨ (SqT K H p ys ∧ Q (.ref p) H))) (tCons (tLc (iList K (tOp (rIxL K) (tVar 2) (tVar 8))) (gTup K 2 (gCons (gName 10) (gCons (gName 11) gNil))) tYes (tTup (tCons (tVar 10) (tCons (tOp (rIxL K) (tFld K (tVar 0) "of_control") (tVar 11)) tNil))) [10, 11]) tNil))
            (by rfl) nd (pi_list (pe_fld (pv 0) rfl)) (blkOk_by (own := [("control", 8)]) (N := NGi) (sc := defScope (grM 0)) (by decide +kernel)) (fun _ _ _ _ _ => pg_name (i := 8) nd rfl (Or.inl rfl))
            (fun _ _ _ _ _ => pts_nil) (fun _ _ _ _ _ => pe_callTy call_tuple_of (by rfl) B.tuple (by decide +kernel) (pa_cons (pe_lc (own := [("many", 10), ("behind", 11)]) (by rfl) nd (pi_list (pe_ix (r := rIxL K) ix_list (pv 2) (pv 8) (fun _ _ => rfl))) (blkOk_by (own := [("many", 10), ("behind", 11)]) (N := NGi) (by rfl)) (fun _ _ _ _ _ => pg_tup rfl (pgs_cons (pg_name (i := 10) nd rfl (Or.inl rfl)) (pgs_cons (pg_name (i := 11) nd rfl (Or.inl rfl)) pgs_nil)))
              (fun _ _ _ _ _ => pts_nil) (fun _ _ _ _ _ => pe_tup (pa_cons (pv 10) (pa_cons (pe_ix (r := rIxL K) ix_list (pe_fld (pv 0) rfl) (pv 11) (fun _ _ => rfl)) pa_nil)))) pa_nil)))) rfl)
      (pss_cons (ps_fld (pv 0) (pe_lc (own := [("_", 12)]) (g := gName 12) (tt := tYes) (te := tLst tNil) (by rfl) nd (pi_list (pe_fld (pv 0) rfl)) (blkOk_by (own := [("_", 12)]) (N := NGi) (sc := defScope (grM 0)) (by decide +kernel)) (fun _ _ _ _ _ => pg_name (i := 12) nd rfl (Or.inl rfl))
            (fun _ _ _ _ _ => pts_nil) (fun _ _ _ _ _ => pe_lst pa_nil)) rfl)
      (pss_one (ps_fz (ps_for PassesOwn.never rfl (pi_zip (by rfl) mZ (pa_cons (pe_fld (pv 1) rfl) (pa_cons (pe_fld (pv 0) rfl) pa_nil))) (pg_tup rfl (pgs_cons (pg_name (i := 5) nd rfl (Or.inl rfl)) (pgs_cons (pg_name (i := 6) nd rfl (Or.inl rfl)) pgs_nil)))
        (pss_one (ps_expr (pe_bm PySem.F.plainAttrs_list PySem.F.slot_list_extend PySem.F.type_list_extend mt_extend (pe_ix (r := rIxL K) ix_list (pe_fld (pv 0) rfl) (pv 6) (fun _ _ => rfl)) (pa_cons (pv 5) pa_nil))))))))))))), ?_⟩
    unfold groups at hm
    obtain ⟨_, hg0, hm⟩ := bnd_some.mp hm
    obtain ⟨lines, hlines, hm⟩ := bnd_some.mp hm
    obtain ⟨classes, hcl, hm⟩ := bnd_some.mp hm
    obtain ⟨firsts, hfi, hm⟩ := bnd_some.mp hm
    obtain ⟨_, hg1, hm⟩ := bnd_some.mp hm
    obtain ⟨nums, hnu, hm⟩ := bnd_some.mp hm
    obtain ⟨ofc, hofc, hm⟩ := bnd_some.mp hm
    obtain ⟨counts, hcnt, hm⟩ := bnd_some.mp hm
    obtain ⟨anchors, hanc, hm⟩ := bnd_some.mp hm
    have hm := Option.some.inj hm
    have hg0 := of_decide_eq_true (grd_some.mp hg0)
    have hg1 := grd_some.mp hg1
    rw [Bool.and_eq_true, decide_eq_true_eq, decide_eq_true_eq] at hg1
    obtain ⟨hg1, hg2⟩ := hg1
    have hln : ∀ l ∈ lines, l.length ≤ 2000 := by
      have h := hcl
      unfold alike at h
      obtain ⟨_, g, _⟩ := bnd_some.mp h
      have g := grd_some.mp g
      rw [Bool.and_eq_true, List.all_eq_true] at g
      exact fun l hl => of_decide_eq_true (g.2 l hl)
    have hsz : 200000 < sizeLine := by rw [sizeLine_eq]; omega
    obtain ⟨dxm, him⟩ := hM.ins
    obtain ⟨b1, b2, b3⟩ := hM.members
    obtain ⟨hll, hla⟩ := mapM_get hlines
    refine ⟨_, rfl, ma, MCl, dxm, _, _, rfl, him, T.cl, T.nmb, rfl, X.mb, rfl, ⟨_, SqL.of b1⟩, fun D1 hD1 => ?_⟩
    refine lc_ls (R := RL (RP K)) (walk_list (K := K) (a := X.mb) (xs := X.ms.map V.ref)) (fst_RL fst_RP) lines (by rw [List.length_map]; omega) (by rw [List.length_map]; omega) hD1 (fun H2 s2 => SqL.of (s2 _ _ b1)) ?_ ?_
    · rintro i x y H2 H3 Nx hy s2 ⟨rfl, hx⟩ fin
      rw [List.getElem?_map] at hx
      obtain ⟨b, hb, rfl⟩ := Option.map_eq_some_iff.mp hx
      obtain ⟨mem, hmem⟩ : ∃ mem, M.members[i]? = some mem := ⟨M.members[i]'(by have := get_lt hy; omega), List.getElem?_eq_getElem (by have := get_lt hy; omega)⟩
      obtain ⟨y', hy1, hy2⟩ := hla i mem hmem
      rw [hy] at hy2
      obtain rfl := Option.some.inj hy2
      unfold lineOf at hy1
      obtain ⟨a0, ha0, hy1⟩ := bnd_some.mp hy1
      refine ⟨rfl, _, rfl, _, rfl, b, _, 0, .int a0, rfl, rfl, SqL.of (s2 _ _ (b3 i b mem hb hmem)), atI_nat (by rw [List.getElem?_map, ha0]; rfl), ma, X, ps, M, a0, y, rfl, hM.same s2, hy1, fun t H4 s4 ht => fin _ _ s4 ⟨t, rfl, ht⟩⟩
    intro H2 us s2 hus hls
    refine .inr ⟨D1, _, rfl, hus, True.intro, fun o1 => ?_⟩
    have s3 : Same H (upd H2 D1 (.frz o1 (.lst us))) := Same.updn s2 hD1
    have fl3 : FL (RL (RP K)) (upd H2 D1 (.frz o1 (.lst us))) D1 lines := ⟨us, o1, upd_same, hls.fch (fst_RL fst_RP) (fch_upd (Fch.refl _) hus True.intro)⟩
    generalize upd H2 D1 (.frz o1 (.lst us)) = H3 at s3 fl3 ⊢
    refine ⟨_, rfl, D1, lines, classes, rfl, fl3, hcl, fun ca H4 s4 fca => ?_⟩
    have fl4 := fl3.wk (fst_RL fst_RP) (Wk.of s4)
    refine ⟨_, rfl, _, rfl, D1, ca, lines, classes, firsts, rfl, fl4, fca, hfi, fun fa H5 s5 ffa => ?_⟩
    have i5 := s5 _ _ (s4 _ _ (s3 _ _ hi))
    refine ⟨_, rfl, ga, GCl, dx, _, rfl, i5, TG.cl, TG.nf, (by show 0 < 1000; decide), ?_⟩
    obtain ⟨H6, e6⟩ : ∃ H6, H6 = upd H5 ga (.ins GCl dx [("firsts", .ref fa)]) := ⟨_, rfl⟩
    refine h_swap e6 ?_
    have o6 : OffD ga H5 H6 := by rw [e6]; exact OffD.upd (fun _ _ _ h => h)
    have i6 : H6 ga = some (.ins GCl dx [("firsts", .ref fa)]) := by rw [e6]; exact upd_same
    have w6 : Wk H5 H6 := Wk.off o6 i5 (fun z => z)
    have oH6 : OffD ga H H6 := OffD.trans (OffD.same (Same.trans s3 (Same.trans s4 s5))) o6
    have fl6 := (fl4.wk (fst_RL fst_RP) (Wk.of s5)).wk (fst_RL fst_RP) w6
    have fc6 := (fca.wk fst_RI (Wk.of s5)).wk fst_RI w6
    have ff6 := ffa.wk fst_RI w6
    clear e6 o6 w6 ffa fca fl4 fl3
    obtain ⟨fv, fo, hf1, hf2⟩ := id ff6
    have efv := ls_int hf2
    subst efv
    obtain ⟨cv, co, hc1, hc2⟩ := id fc6
    have ecv := ls_int hc2
    subst ecv
    refine ⟨_, rfl, ga, GCl, dx, _, _, rfl, i6, TG.cl, TG.nf, rfl, fa, _, rfl, .inl (.inr ⟨fo, hf1⟩), fun D2 hD2 => ?_⟩
    refine dc_it (walk_enum (K := K) (a := fa) (xs := firsts.map V.int)) (fun i H' => Same H6 H' ∧ ∃ v, (firsts.zipIdx.take i).foldlM (nmS classes) [] = some v ∧ Dst v ∧ H' D2 = some (.dK (kvs v)) ∧ v.length ≤ i) ⟨same_upd (Same.refl H6) hD2, [], rfl, List.nodup_nil, upd_same, Nat.le_refl _⟩ (fun i H' _ p => .inl (.inr ⟨fo, p.1 _ _ hf1⟩)) ?_ ?_
    · rintro i x H7 H8 hi ⟨s7, v, hv, dv, h7, lv⟩ ⟨Tt, x1, x2, rfl, hT, rfl, e1, e2⟩
      obtain rfl := Option.some.inj e1
      have e2 : (firsts.map V.int)[i]? = some x2 := e2
      rw [List.getElem?_map] at e2
      obtain ⟨c, hc, rfl⟩ := Option.map_eq_some_iff.mp e2
      have hz : firsts.zipIdx[i]? = some (c, i) := by
        rw [List.getElem?_zipIdx, hc, Nat.zero_add]
        rfl
      obtain ⟨v', h1, h2⟩ := foldM_step hnu hz hv
      unfold nmS at h1
      obtain ⟨cl, hcl2, h1⟩ := bnd_some.mp h1
      have h1 := Option.some.inj h1
      obtain ⟨hcl0, hcl2⟩ := at_some hcl2
      have s8 := same_upd (o := .tup [V.int (i : Nat), .int c]) s7 hT
      have n8 : D2 ≠ Tt := ne_of_none h7 hT
      refine ⟨Tt, [.int (i : Nat), .int c], rfl, sqt_new, rfl, _, _, rfl, _, _, rfl, rfl, ?_⟩
      refine ⟨rfl, _, rfl, _, rfl, ca, _, c, .int cl, rfl, rfl, .inl (.inr ⟨co, s8 _ _ hc1⟩), atI_of hcl0 (by rw [List.getElem?_map, hcl2]; rfl), _, rfl, kvs v, .inl cl, rfl, (upd_ne n8).trans h7, ?_, ?_⟩
      · rw [List.length_map] at hi ⊢
        omega
      · refine ⟨Same.updn s8 hD2, v', h2, ?_, ?_, ?_⟩
        · rw [← h1]; exact dv.put _ _
        · rw [upd_same, putK_kvs, ← h1]
        · rw [← h1]
          exact Nat.le_trans (vput_len v cl (i : Int)) (Nat.succ_le_succ lv)
    rintro H7 ⟨s7, v, hv, dv, h7, lv⟩
    have eT : firsts.zipIdx.take (firsts.map V.int).length = firsts.zipIdx := List.take_of_length_le (by rw [List.length_zipIdx, List.length_map]; exact Nat.le_refl _)
    rw [eT, hnu] at hv
    obtain rfl := Option.some.inj hv
    refine .inr ⟨D2, _, rfl, h7, True.intro, fun o2 => ?_⟩
    have s8 : Same H6 (upd H7 D2 (.frz o2 (.dK (kvs nums)))) := Same.updn s7 hD2
    have v8 : VecF (upd H7 D2 (.frz o2 (.dK (kvs nums)))) D2 nums := ⟨⟨o2, upd_same⟩, dv⟩
    generalize upd H7 D2 (.frz o2 (.dK (kvs nums))) = H8 at s8 v8 ⊢
    clear s7 h7 hv lv eT
    have hc8 := s8 _ _ hc1
    obtain ⟨hol, hoa⟩ := mapM_get hofc
    refine ⟨_, rfl, ca, rfl, ⟨_, .inl (.inr ⟨co, hc8⟩)⟩, fun oa hoan => ?_⟩
    refine lc_ls (R := RI) (walk_list (K := K) (a := ca) (xs := classes.map V.int)) fst_RI ofc (by rw [List.length_map]; omega) (by rw [List.length_map]; omega) hoan (fun H9 s9 => .inl (.inr ⟨co, s9 _ _ hc8⟩)) ?_ ?_
    · rintro i x y H9 H10 Nx hy s9 ⟨rfl, hx⟩ fin
      rw [List.getElem?_map] at hx
      obtain ⟨c, hc, rfl⟩ := Option.map_eq_some_iff.mp hx
      obtain ⟨y', hy1, hy2⟩ := hoa i c hc
      rw [hy] at hy2
      obtain rfl := Option.some.inj hy2
      have dg := (v8.same s9).vec.dget c
      rw [hy1] at dg
      exact ⟨rfl, _, rfl, _, rfl, D2, .int y, rfl, dg, fin _ _ (Same.refl _) rfl⟩
    intro H9 us9 s9 hus9 hls9
    have eo9 := ls_int hls9
    subst eo9
    refine .inr ⟨oa, _, rfl, hus9, True.intro, fun ob => ?_⟩
    have s10 : Same H8 (upd H9 oa (.frz ob (.lst (ofc.map V.int)))) := Same.updn s9 hoan
    have o10 : upd H9 oa (.frz ob (.lst (ofc.map V.int))) oa = some (.frz ob (.lst (ofc.map V.int))) := upd_same
    generalize upd H9 oa (.frz ob (.lst (ofc.map V.int))) = H10 at s10 o10 ⊢
    have s610 := Same.trans s8 s10
    refine ⟨_, rfl, ga, GCl, dx, _, rfl, s610 _ _ i6, TG.cl, TG.no, (by show 1 < 1000; decide), ?_⟩
    obtain ⟨H11, e11⟩ : ∃ H11, H11 = upd H10 ga (.ins GCl dx [("firsts", .ref fa), ("of_control", .ref oa)]) := ⟨_, rfl⟩
    refine h_swap e11 ?_
    have o11 : OffD ga H10 H11 := by rw [e11]; exact OffD.upd (fun _ _ _ h => h)
    have i11 : H11 ga = some (.ins GCl dx [("firsts", .ref fa), ("of_control", .ref oa)]) := by rw [e11]; exact upd_same
    have w11 : Wk H10 H11 := Wk.off o11 (s610 _ _ i6) (fun z => z)
    have w611 : Wk H6 H11 := (Wk.of s610).trans w11
    have oH11 : OffD ga H H11 := OffD.trans oH6 (OffD.trans (OffD.same s610) o11)
    have f11 := w611 _ _ hf1 True.intro
    have oa11 := w11 _ _ o10 True.intro
    have fl11 := fl6.wk (fst_RL fst_RP) w611
    clear e11 o11 w11 o10 s10 hus9 s9 hls9 dv v8 s8 hc8
    obtain ⟨lv, lo, hl1, hl2⟩ := fl11
    obtain ⟨hcl1, hca1⟩ := mapM_get hcnt
    refine ⟨_, rfl, ga, GCl, dx, _, _, rfl, i11, TG.cl, TG.nf, rfl, fa, rfl, ⟨_, .inl (.inr ⟨fo, f11⟩)⟩, fun D4 hD4 => ?_⟩
    refine lc_ls (R := RT K (RP K)) (walk_list (K := K) (a := fa) (xs := firsts.map V.int)) (fst_RT fst_RP) counts (by rw [List.length_map]; omega) (by rw [List.length_map]; omega) hD4 (fun H12 s12 => .inl (.inr ⟨fo, s12 _ _ f11⟩)) ?_ ?_
    · rintro i x y H12 H13 Nx hy s12 ⟨rfl, hx⟩ fin
      rw [List.getElem?_map] at hx
      obtain ⟨c, hc, rfl⟩ := Option.map_eq_some_iff.mp hx
      obtain ⟨y', hy1, hy2⟩ := hca1 i c hc
      rw [hy] at hy2
      obtain rfl := Option.some.inj hy2
      unfold cntL at hy1
      obtain ⟨l, hl, hy1⟩ := bnd_some.mp hy1
      obtain ⟨hc0, hl⟩ := at_some hl
      obtain ⟨hyl, hya⟩ := mapM_get hy1
      obtain ⟨lx, hlx, ln, rfl, vs, ol, hn1, hn2⟩ := hl2.get hl
      have hvl := hn2.len
      have hl20 := hln l (List.mem_of_getElem? hl)
      have hn1' := s12 _ _ hn1
      refine ⟨rfl, _, rfl, _, rfl, D1, _, c, .ref ln, rfl, rfl, .inl (.inr ⟨lo, s12 _ _ hl1⟩), atI_of hc0 hlx, ln, rfl, ⟨_, .inl (.inr ⟨ol, hn1'⟩)⟩, fun D5 hD5 => ?_⟩
      refine lc_ls (R := RP K) (walk_list (K := K) (a := ln) (xs := vs)) fst_RP y (by omega) (by omega) hD5 (fun H14 s14 => .inl (.inr ⟨ol, s14 _ _ hn1'⟩)) ?_ ?_
      · rintro i2 x2 y2 H14 H15 Nx2 hy2 s14 ⟨rfl, hx2⟩ fin2
        obtain ⟨e, he⟩ : ∃ e, l[i2]? = some e := ⟨l[i2]'(by have := get_lt hy2; omega), List.getElem?_eq_getElem (by have := get_lt hy2; omega)⟩
        obtain ⟨y3', hy3, hy4⟩ := hya i2 e he
        rw [hy2] at hy4
        obtain rfl := Option.some.inj hy4
        unfold cntE at hy3
        obtain ⟨g, hg, hy3⟩ := bnd_some.mp hy3
        obtain rfl := Option.some.inj hy3
        obtain ⟨hg0', hg⟩ := at_some hg
        obtain ⟨t, rfl, ht⟩ := hn2.at_ i2 x2 e hx2 he
        have sy := Same.trans s12 s14
        refine ⟨t, _, rfl, sqt_same sy ht, rfl, _, _, rfl, _, _, rfl, rfl, ?_⟩
        refine ⟨rfl, _, rfl, _, rfl, ga, GCl, dx, _, _, rfl, sy _ _ i11, TG.cl, TG.no, rfl, _, rfl, oa, _, e.2, .int g, rfl, rfl, .inl (.inr ⟨ob, sy _ _ oa11⟩), atI_of hg0' (by rw [List.getElem?_map, hg]; rfl), (by show 2 ≤ sizeLine; decide), fun tt ntt => ?_⟩
        exact fin2 _ _ (same_upd (Same.refl _) ntt) ⟨tt, rfl, sqt_new⟩
      · intro H14 us s14 hus hls
        refine ⟨D5, us, rfl, .inl ⟨SqL.of hus, fun kt nkt => ?_⟩⟩
        have s15 := same_upd (o := .tup us) (Same.refl H14) nkt
        exact fin _ _ (Same.trans s14 s15) ⟨kt, rfl, us, sqt_new, hls.fch fst_RP (Fch.of s15)⟩
    intro H12 us12 s12 hus12 hls12
    refine .inr ⟨D4, _, rfl, hus12, True.intro, fun o4 => ?_⟩
    have s13 : Same H11 (upd H12 D4 (.frz o4 (.lst us12))) := Same.updn s12 hD4
    have fc13 : FL (RT K (RP K)) (upd H12 D4 (.frz o4 (.lst us12))) D4 counts := ⟨us12, o4, upd_same, hls12.fch (fst_RT fst_RP) (fch_upd (Fch.refl _) hus12 True.intro)⟩
    generalize upd H12 D4 (.frz o4 (.lst us12)) = H13 at s13 fc13 ⊢
    refine ⟨_, rfl, ga, GCl, dx, _, rfl, s13 _ _ i11, TG.cl, TG.nc, (by show 2 < 1000; decide), ?_⟩
    obtain ⟨H14, e14⟩ : ∃ H14, H14 = upd H13 ga (.ins GCl dx [("firsts", .ref fa), ("of_control", .ref oa), ("counts", .ref D4)]) := ⟨_, rfl⟩
    refine h_swap e14 ?_
    have o14 : OffD ga H13 H14 := by rw [e14]; exact OffD.upd (fun _ _ _ h => h)
    have i14 : H14 ga = some (.ins GCl dx [("firsts", .ref fa), ("of_control", .ref oa), ("counts", .ref D4)]) := by rw [e14]; exact upd_same
    have w14 : Wk H13 H14 := Wk.off o14 (s13 _ _ i11) (fun z => z)
    have w1114 : Wk H11 H14 := (Wk.of s13).trans w14
    have oH14 : OffD ga H H14 := OffD.trans oH11 (OffD.trans (OffD.same s13) o14)
    have f14 := w1114 _ _ f11 True.intro
    have oa14 := w1114 _ _ oa11 True.intro
    have fc14 := fc13.wk (fst_RT fst_RP) w14
    clear e14 o14 w14 fc13 s13 s12 hus12 hls12
    refine ⟨_, rfl, ga, GCl, dx, _, _, rfl, i14, TG.cl, TG.nf, rfl, fa, rfl, ⟨_, .inl (.inr ⟨fo, f14⟩)⟩, fun aa haa => ?_⟩
    refine lc_new (U := UE) (walk_list (K := K) (a := fa) (xs := firsts.map V.int)) (fun _ _ _ _ s h => s _ _ h) (fun d _ _ _ _ o n h => o.off _ _ n.symm h) (fun _ _ _ h => ⟨_, h⟩) (firsts.map fun _ => ([] : List V)) (by rw [List.length_map, List.length_map]) (by rw [List.length_map]; omega) haa (fun H15 s15 => .inl (.inr ⟨fo, s15 _ _ f14⟩)) ?_ ?_
    · rintro i x y H15 H16 Nx hy s15 ⟨rfl, hx⟩ fin
      rw [List.getElem?_map] at hy
      obtain ⟨c, hc, rfl⟩ := Option.map_eq_some_iff.mp hy
      exact ⟨rfl, (by show 0 ≤ sizeLine; omega), fun b hb => fin b _ (same_upd (Same.refl _) hb) hb upd_same⟩
    intro H15 bs s15 hbs hN hDb
    have hbl := hN.len
    rw [List.length_map] at hbl
    refine ⟨_, rfl, ga, GCl, dx, _, rfl, s15 _ _ i14, TG.cl, TG.na, (by show 3 < 1000; decide), ?_⟩
    obtain ⟨H16, e16⟩ : ∃ H16, H16 = upd H15 ga (.ins GCl dx [("firsts", .ref fa), ("of_control", .ref oa), ("counts", .ref D4), ("anchors", .ref aa)]) := ⟨_, rfl⟩
    refine h_swap e16 ?_
    have o16 : OffD ga H15 H16 := by rw [e16]; exact OffD.upd (fun _ _ _ h => h)
    have i16 : H16 ga = some (.ins GCl dx [("firsts", .ref fa), ("of_control", .ref oa), ("counts", .ref D4), ("anchors", .ref aa)]) := by rw [e16]; exact upd_same
    have w16 : Wk H14 H16 := (Wk.of s15).trans (Wk.off o16 (s15 _ _ i14) (fun z => z))
    have oH16 : OffD ga H H16 := OffD.trans oH14 (OffD.trans (OffD.same s15) o16)
    have f16 := w16 _ _ f14 True.intro
    have oa16 := w16 _ _ oa14 True.intro
    have fc16 := fc14.wk (fst_RT fst_RP) w16
    have naa : aa ≠ ga := fun z => by rw [z, i14] at haa; cases haa
    have nbg : ∀ b ∈ bs, b ≠ ga := fun b hb z => by have := hN.new b hb; rw [z, i14] at this; cases this
    have aa16 : H16 aa = some (.lst (bs.map V.ref)) := o16 _ _ naa hbs
    have bs16 : ∀ b ∈ bs, H16 b = some (.lst []) := fun b hb => by
      obtain ⟨j, hj⟩ := List.getElem?_of_mem hb
      have lt := get_lt hj
      have := hN.at_ j b [] hj (by rw [List.getElem?_map, List.getElem?_eq_getElem (by omega)]; rfl)
      exact o16 _ _ (nbg b hb) this
    have nbH : ∀ b ∈ bs, H b = none := fun b hb => by
      cases y : H b with
      | none => rfl
      | some o => have := oH14 _ _ (nbg b hb) y; rw [hN.new b hb] at this; cases this
    have naH : H aa = none := by
      cases y : H aa with
      | none => rfl
      | some o => have := oH14 _ _ naa y; rw [haa] at this; cases this
    have hM16 := mac_ins hM hi oH16
    clear e16 o16 w16 fc14 hbs s15
    obtain ⟨dxn, hin⟩ := hM16.ins
    obtain ⟨m1, m2, m3⟩ := hM16.members
    have hml : M.members.length = lines.length := hll.symm
    refine ⟨_, rfl, ma, MCl, dxn, _, _, rfl, hin, T.cl, T.nmb, rfl, _, rfl, ga, GCl, dx, _, _, rfl, i16, TG.cl, TG.no, rfl, X.mb, oa, _, _, rfl, SqL.of m1, .inl (.inr ⟨ob, oa16⟩), ?_⟩
    have hzl : (M.members.zip ofc).length = min (X.ms.map V.ref).length (ofc.map V.int).length := by rw [List.length_zip, List.length_map, List.length_map, m2]
    refine for_it (walk_zip (K := K) (a := X.mb) (b := oa) (n := min (X.ms.map V.ref).length (ofc.map V.int).length) rfl) (fun i σ G => ∃ (acc : List (List Int)) (y z : Option V), ((M.members.zip ofc).take i).foldlM ancS (firsts.map fun _ => []) = some acc ∧ σ = [some (.ref ga), some (.ref ma), some (.ref D1), some (.ref ca), some (.ref D2), y, z, none, none, none, none, none, none] ∧ (∀ z o, z ∉ bs → H16 z = some o → G z = some o) ∧ acc.length = bs.length ∧ ∀ (j : Nat) (b : Addr) (l : List Int), bs[j]? = some b → acc[j]? = some l → G b = some (.lst (l.map V.int)))
      ⟨_, none, none, rfl, rfl, fun _ _ _ h => h, by rw [List.length_map, hbl], fun j b l h1 h2 => ?_⟩ (fun i σ G _ ⟨_, _, _, _, _, o, _⟩ => ⟨SqL.of (o _ _ ?_ m1), .inl (.inr ⟨ob, o _ _ ?_ oa16⟩)⟩) ?_ ?_
    · rw [List.getElem?_map] at h2
      obtain ⟨c, hc, rfl⟩ := Option.map_eq_some_iff.mp h2
      exact bs16 b (List.mem_of_getElem? h1)
    · intro z
      have := bs16 _ z
      rw [m1] at this
      have hh := nbH _ z
      rw [b1] at hh
      cases hh
    · intro z
      have := bs16 _ z
      rw [oa16] at this
      cases this
    · rintro i x σ G1 G2 hi' ⟨acc, y, z, hf, rfl, oG, hal, hat⟩ ⟨Tt, x1, x2, rfl, hT, rfl, e1, e2⟩
      have e1 : (X.ms.map V.ref)[i]? = some x1 := e1
      have e2 : (ofc.map V.int)[i]? = some x2 := e2
      rw [List.getElem?_map] at e1 e2
      obtain ⟨mb, hmb, rfl⟩ := Option.map_eq_some_iff.mp e1
      obtain ⟨g, hg, rfl⟩ := Option.map_eq_some_iff.mp e2
      obtain ⟨mem, hmem⟩ : ∃ mem, M.members[i]? = some mem := ⟨M.members[i]'(by have := get_lt hmb; omega), List.getElem?_eq_getElem (by have := get_lt hmb; omega)⟩
      have hz : (M.members.zip ofc)[i]? = some (mem, g) := by rw [List.getElem?_zip_eq_some]; exact ⟨hmem, hg⟩
      obtain ⟨acc', h1, h2⟩ := foldM_step hanc hz hf
      unfold ancS at h1
      obtain ⟨l, hl, h1⟩ := bnd_some.mp h1
      obtain ⟨_, hsz2, h1⟩ := bnd_some.mp h1
      have h1 := Option.some.inj h1
      have hsz2 : l.length + mem.length < 100000 := of_decide_eq_true (grd_some.mp hsz2)
      obtain ⟨hg0', hl⟩ := at_some hl
      have lt := get_lt hl
      obtain ⟨b, hb⟩ : ∃ b, bs[g.toNat]? = some b := ⟨bs[g.toNat]'(by omega), List.getElem?_eq_getElem (by omega)⟩
      have hbm := List.mem_of_getElem? hb
      have s2 := same_upd (o := .tup [V.ref mb, .int g]) (Same.refl G1) hT
      have eb := s2 _ _ (hat g.toNat b l hb hl)
      have nT : ∀ z o, z ∉ bs → H16 z = some o → upd G1 Tt (.tup [V.ref mb, .int g]) z = some o := fun z o hz h => s2 _ _ (oG z o hz h)
      have nab : aa ∉ bs := hDb
      have ngb : ga ∉ bs := fun z => nbg _ z rfl
      have hmbH : mb ∉ bs := fun z => by
        have h5 := nbH _ z
        rw [b3 i mb mem hmb hmem] at h5
        cases h5
      refine ⟨Tt, [.ref mb, .int g], rfl, sqt_new, rfl, _, _, rfl, _, _, rfl, rfl, ?_⟩
      refine ⟨_, rfl, ga, GCl, dx, _, _, rfl, nT _ _ ngb i16, TG.cl, TG.na, rfl, _, rfl, aa, _, g, .ref b, rfl, rfl, SqL.of (nT _ _ nab aa16), atI_of hg0' (by rw [List.getElem?_map, hb]; rfl), .inl ⟨rfl, _, SqL.of eb⟩, _, rfl, b, mb, _, _, rfl, rfl, eb, nT _ _ hmbH (m3 i mb mem hmb hmem), by rw [List.length_map, List.length_map]; omega, ?_⟩
      refine ⟨acc', _, _, h2, rfl, fun z o hz h => ?_, by rw [← h1, List.length_set]; exact hal, fun j b2 l2 e3 e4 => ?_⟩
      · rw [upd_ne (fun e => hz (by rw [e]; exact hbm))]
        exact nT z o hz h
      · rw [← h1] at e4
        by_cases hj : g.toNat = j
        · subst hj
          rw [hb] at e3
          obtain rfl := Option.some.inj e3
          rw [List.getElem?_set_self', hl] at e4
          obtain rfl : l ++ mem = l2 := Option.some.inj e4
          rw [upd_same, List.map_append]
        · rw [List.getElem?_set_ne hj] at e4
          rw [upd_ne (fun e => hj (nodup_get hN.nd hb (by rw [← e]; exact e3)))]
          exact s2 _ _ (hat j b2 l2 e3 e4)
    · rintro σ G1 ⟨acc, y, z, hf, rfl, oG, hal, hat⟩
      have eT : (M.members.zip ofc).take (min (X.ms.map V.ref).length (ofc.map V.int).length) = M.members.zip ofc := List.take_of_length_le (by omega)
      rw [eT, hanc] at hf
      obtain rfl := Option.some.inj hf
      have gl : ∀ b ∈ bs, ∃ l : List Int, G1 b = some (.lst (l.map V.int)) := fun b hb => by
        obtain ⟨j, hj⟩ := List.getElem?_of_mem hb
        have lt := get_lt hj
        exact ⟨_, hat j b _ hj (List.getElem?_eq_getElem (by omega))⟩
      have ga1 := oG _ _ hDb aa16
      refine fz_all (aa :: bs) G1 (List.nodup_cons.mpr ⟨hDb, hN.nd⟩) (fun b hb => ?_) fun H' k1 k2 => ?_
      · rcases List.mem_cons.mp hb with rfl | hb
        · exact ⟨_, ga1⟩
        · obtain ⟨l, hl⟩ := gl b hb
          exact ⟨_, hl⟩
      · have keep : ∀ z o, z ∉ aa :: bs → H16 z = some o → H' z = some o := fun z o hz h => by
          rw [k1 z hz]
          exact oG z o (fun e => hz (List.mem_cons_of_mem _ e)) h
        have wk : ∀ z o, H16 z = some o → Fzn o → H' z = some o := fun z o h fz => keep z o (fun e => by
          rcases List.mem_cons.mp e with rfl | e
          · rw [aa16] at h; rw [← Option.some.inj h] at fz; exact fz
          · rw [bs16 z e] at h; rw [← Option.some.inj h] at fz; exact fz) h
        refine q H' ⟨dx, fa, oa, D4, aa, keep _ _ ?_ i16, ?_, ?_, ?_, ?_⟩ fun b o hb h => ?_
        · intro e
          rcases List.mem_cons.mp e with e | e
          · exact naa e.symm
          · exact nbg _ e rfl
        · rw [← hm]
          exact ⟨_, fo, wk _ _ f16 True.intro, ls_ints _⟩
        · rw [← hm]
          exact ⟨_, ob, wk _ _ oa16 True.intro, ls_ints _⟩
        · rw [← hm]
          exact fc16.wk (fst_RT fst_RP) wk
        · rw [← hm]
          obtain ⟨oaa, haa'⟩ := k2 aa List.mem_cons_self _ ga1
          refine ⟨bs.map V.ref, oaa, haa', by rw [List.length_map]; exact hal.symm, fun j v l e1 e2 => ?_⟩
          rw [List.getElem?_map] at e1
          obtain ⟨b, hb, rfl⟩ := Option.map_eq_some_iff.mp e1
          obtain ⟨o5, h5⟩ := k2 b (List.mem_cons_of_mem _ (List.mem_of_getElem? hb)) _ (hat j b l hb e2)
          exact ⟨b, rfl, _, o5, h5, ls_ints _⟩
        · refine keep b o (fun e => ?_) (oH16 b o hb h)
          rcases List.mem_cons.mp e with rfl | e
          · rw [naH] at h; cases h
          · rw [nbH _ e] at h; cases h
end
end FC
set_option Elab.async false
set_option linter.all false
set_option maxRecDepth 100000
set_option maxHeartbeats 4000000
/-! worth_of, untied. -/
namespace FC
open PySem PySem.Spec PyProof.Rows L2
def spWorth (K : PySem.W.Frag) : Sp := fun vs H Q _ => ∃ (a b : Addr) (tie numbers : Vec) (r : Int), vs = [.ref a, .ref b] ∧ VecF H a tie ∧ VecF H b numbers ∧ worth tie numbers = some r ∧ ∀ H', Same H H' → Q (.int r) H'
def spUntied (K : PySem.W.Frag) : Sp := fun vs H Q _ => ∃ (a : Addr) (k : Int) (tie : Vec) (r : Bld), vs = [.int k, .ref a] ∧ VecF H a tie ∧ untied k tie = some r ∧ ∀ (t : Addr) H', Same H H' → BldAt K H' t r → Q (.ref t) H'
section
variable {P : Program} {w : World} {K : PySem.W.Frag} {mg : Str → Option Value} {base : Heap}
abbrev NWo : List Str := ["tie", "numbers", "total", "anchor", "times"]
theorem scWorth : FnScope NWo ["tie", "numbers"] (defScope sWorthOf) := ⟨rfl, rfl, rfl, by decide +kernel, rfl, by decide +kernel, by decide +kernel⟩
theorem ok_worth {f : Addr} {fd : FuncData} (F : Fun K "worth_of" "worth_of" sWorthOf f fd) : FnOk P w K mg base CX0 1 f fd ["tie", "numbers"] (spWorth K) := by
  refine F.ok scWorth (fun vs H Q E h => ?_) (fun cdv A outer s H vs Q E hr h => ?_)
  · obtain ⟨a, b, tie, numbers, r, rfl, _⟩ := h
    rfl
  · obtain ⟨a, b, tie, numbers, r, rfl, ha, hb, hm, q⟩ := h
    have nd := scWorth.nd
    refine ⟨_, pss_cons (ps_set (i := 2) nd rfl (Or.inl rfl) pe_int)
      (pss_cons (ps_for PassesOwn.never rfl (pi_items (pv 0)) (pg_tup rfl (pgs_cons (pg_name (i := 3) nd rfl (Or.inl rfl)) (pgs_cons (pg_name (i := 4) nd rfl (Or.inl rfl)) pgs_nil)))
        (pss_one (ps_aug (i := 2) nd rfl (Or.inl rfl) (pe_op op_mulW (pv 4) (pe_dget (hu_of hr) (pv 1) (pv 3) (fun _ _ => rfl))) ip_add)))
      (pss_one (ps_ret (pv 2)))), ?_⟩
    obtain ⟨⟨o, hd⟩, dd⟩ := ha
    refine ⟨_, rfl, a, o, kvs tie, rfl, hd, ?_⟩
    refine for_it (walk_items (d := a) (o := o) (kvs := kvs tie)) (fun n σ G => ∃ t y z, (tie.take n).foldlM (wrS numbers) 0 = some t ∧ σ = [some (.ref a), some (.ref b), some (.int t), y, z] ∧ Same H G) ⟨0, none, none, rfl, rfl, Same.refl H⟩ (fun n σ G _ ⟨_, _, _, _, _, s⟩ => s _ _ hd) ?_ ?_
    · rintro n xv σ G1 G2 hn ⟨t, y, z, ht, rfl, s1⟩ ⟨T, x1, x2, rfl, hT, rfl, e1, e2⟩
      obtain ⟨k, x, hp, rfl, rfl⟩ := kvs_get e1 e2
      obtain ⟨t', h1, h2⟩ := foldM_step hm hp ht
      unfold wrS at h1
      obtain ⟨m, hm1, h1⟩ := bnd_some.mp h1
      obtain ⟨_, hg, h1⟩ := bnd_some.mp h1
      have h1 := Option.some.inj h1
      have hg := grd_some.mp hg
      rw [Bool.and_eq_true, Bool.and_eq_true] at hg
      have s2 := same_upd (o := .tup [V.int k, .int x]) s1 hT
      have dg := (hb.same s2).vec.dget k
      have hm1 : vget numbers k = some m := hm1
      rw [hm1] at dg
      refine ⟨T, [.int k, .int x], rfl, sqt_new, rfl, _, _, rfl, _, _, rfl, rfl, ?_⟩
      refine ⟨_, rfl, _, rfl, _, rfl, _, rfl, b, .int m, rfl, dg, x, m, rfl, rfl, wide_mul (sm_lt hg.2.1) (sm_lt hg.2.2) (by decide) (by decide) (by decide), _, _, rfl, rfl, ?_⟩
      exact ⟨t', _, _, h2, by rw [← h1]; rfl, s2⟩
    · rintro σ G1 ⟨t, y, z, ht, rfl, s1⟩
      rw [List.length_map, List.take_length] at ht
      have hm' : tie.foldlM (wrS numbers) 0 = some r := hm
      rw [hm'] at ht
      cases Option.some.inj ht
      exact ⟨_, rfl, q _ s1⟩
abbrev NUn : List Str := ["anchor", "tie", "own", "sign", "parts", "key", "times"]
theorem scUntied : FnScope NUn ["anchor", "tie"] (defScope sUntied) := ⟨rfl, rfl, rfl, by decide +kernel, rfl, by decide +kernel, by decide +kernel⟩
theorem ok_untied {f : Addr} {fd : FuncData} (F : Fun K "untied" "untied" sUntied f fd) (mA : mg "abs" = none) (CS : Cal P w K mg base CX0 2 "shortened" ["parts", "scale"] (spShortened K)) : FnOk P w K mg base CX0 3 f fd ["anchor", "tie"] (spUntied K) := by
  refine F.ok scUntied (fun vs H Q E h => ?_) (fun cdv A outer s H vs Q E hr h => ?_)
  · obtain ⟨a, k, tie, r, rfl, _⟩ := h
    rfl
  · obtain ⟨a, k, tie, r, rfl, ha, hm, q⟩ := h
    have nd := scUntied.nd
    refine ⟨_, pss_cons (ps_set (i := 2) nd rfl (Or.inl rfl) (pe_dget (hu_of hr) (pv 1) (pv 0) (fun _ _ => rfl)))
      (pss_cons (ps_set (i := 3) nd rfl (Or.inr rfl) (pe_ifExp (pt_cmp (pc_lt (pv 2) pe_int)) pe_int (pe_un un_neg pe_int)))
      (pss_cons (ps_lk (ps_setDc (i := 4) (own := [("key", 5), ("times", 6)]) (g := gTup K 2 (gCons (gName 5) (gCons (gName 6) gNil))) (tt := tB (tNeI (tVar 5) (tVar 0))) (tk := tVar 5) (tv := tOp (rI CMulW fun i j => .int (i * j)) (tVar 3) (tVar 6)) rfl nd rfl rfl (sw_dict rfl rfl rfl (by decide +kernel)) (pi_items (pv 1)) (blkOk_by (own := [("key", 5), ("times", 6)]) (N := NUn) (sc := defScope sUntied) (by decide +kernel))
        (fun _ _ _ _ _ => pg_tup rfl (pgs_cons (pg_name (i := 5) nd rfl (Or.inl rfl)) (pgs_cons (pg_name (i := 6) nd rfl (Or.inl rfl)) pgs_nil)))
        (fun _ _ _ _ _ => pts_one (pt_cmp (pc_neI (pv 5) (pv 0)))) (fun _ _ _ _ _ => pv 5) (fun _ _ _ _ _ => pe_op op_mulW (pv 3) (pv 6))))
      (pss_one (ps_ret (pe_cal CS hr pass0 (pa_cons (pv 4) (pa_cons (pe_callB call_abs (by rfl) mA (by decide +kernel) (pa_cons (pv 2) pa_nil)) pa_nil))))))), ?_⟩
    unfold untied at hm
    obtain ⟨own, ho, hm⟩ := bnd_some.mp hm
    obtain ⟨_, hg, hm⟩ := bnd_some.mp hm
    have hm := Option.some.inj hm
    have hg := grd_some.mp hg
    rw [Bool.and_eq_true, Bool.and_eq_true] at hg
    obtain ⟨hg1, hg2, hg3⟩ := hg
    have dg := ha.vec.dget k
    rw [ho] at dg
    refine ⟨_, rfl, _, rfl, a, .int own, rfl, dg, ?_⟩
    have hlen : tie.length < sizeLine := by have := vsm_len hg2; rw [sizeLine_eq]; omega
    have hd : Dst ((tie.filter fun p => !decide (p.1 = k)).map fun p => (p.1, (if own < 0 then 1 else -1) * p.2)) := (ha.2.filter _).mapv _
    have h0own : own ≠ 0 := fun z => by rw [z] at hg1; simp at hg1
    have b1 : (1 : Int).natAbs < 2 ^ 2000 := Nat.one_lt_two_pow (by decide)
    have b2 : (-1 : Int).natAbs < 2 ^ 2000 := Nat.one_lt_two_pow (by decide)
    refine ⟨_, rfl, _, _, rfl, rfl, _, rfl, ?_⟩
    have eabs : (if own < 0 then -own else own) = (own.natAbs : Int) := by split <;> omega
    refine ite2 (fun c => ?_) (fun c => ?_)
    · have es : (if own < 0 then (1 : Int) else -1) = 1 := if_pos (of_decide_eq_true c)
      refine items_set (fun p => !decide (p.1 = k)) (fun p => (p.1, (if own < 0 then 1 else -1) * p.2)) rfl ha.vec hlen hd ?_ ?_
      · intro key x H2 T Nx D hm' hT hs hD h0 h1
        obtain ⟨us, hus, hlu⟩ := hD
        refine ⟨T, [.int key, .int x], rfl, SqT.of hT, rfl, _, _, rfl, _, _, rfl, rfl, rfl, _, rfl, _, rfl, key, k, rfl, rfl, _, rfl, ?_⟩
        refine ite2 (fun hb => ?_) (fun hb => ?_)
        · have hx : (!decide (key = k)) = true := hb
          exact ⟨_, rfl, _, rfl, _, rfl, 1, x, rfl, rfl, wide_mul b1 (sm_all hg2 hm') (by decide) (by decide) (by decide), us, .inl key, rfl, hus, hlu, by have := h1 hx us hus; rw [es] at this; exact this⟩
        · exact h0 (by simpa using hb)
      · intro D H' hD s1 hv' e
        refine ⟨_, rfl, _, rfl, own, rfl, D, _, _, rfl, hv', ?_, ?_, ?_, fun t H2 s2 h2 => ?_⟩
        · rw [List.length_map]
          have h1 := List.length_filter_le (fun p => !decide (p.1 = k)) tie
          have h2 := vsm_len hg2
          omega
        · rw [eabs]; omega
        · rw [eabs, Int.natAbs_natCast]
          exact Nat.lt_trans (sm_lt hg3) (Nat.pow_lt_pow_right (by decide) (by decide))
        · rw [eabs, hm] at h2
          exact q t H2 (Same.trans s1 s2) h2
    · have es : (if own < 0 then (1 : Int) else -1) = -1 := if_neg (fun z => c (decide_eq_true z))
      refine ⟨1, rfl, ?_⟩
      refine items_set (fun p => !decide (p.1 = k)) (fun p => (p.1, (if own < 0 then 1 else -1) * p.2)) rfl ha.vec hlen hd ?_ ?_
      · intro key x H2 T Nx D hm' hT hs hD h0 h1
        obtain ⟨us, hus, hlu⟩ := hD
        refine ⟨T, [.int key, .int x], rfl, SqT.of hT, rfl, _, _, rfl, _, _, rfl, rfl, rfl, _, rfl, _, rfl, key, k, rfl, rfl, _, rfl, ?_⟩
        refine ite2 (fun hb => ?_) (fun hb => ?_)
        · have hx : (!decide (key = k)) = true := hb
          exact ⟨_, rfl, _, rfl, _, rfl, -1, x, rfl, rfl, wide_mul b2 (sm_all hg2 hm') (by decide) (by decide) (by decide), us, .inl key, rfl, hus, hlu, by have := h1 hx us hus; rw [es] at this; exact this⟩
        · exact h0 (by simpa using hb)
      · intro D H' hD s1 hv' e
        refine ⟨_, rfl, _, rfl, own, rfl, D, _, _, rfl, hv', ?_, ?_, ?_, fun t H2 s2 h2 => ?_⟩
        · rw [List.length_map]
          have h1 := List.length_filter_le (fun p => !decide (p.1 = k)) tie
          have h2 := vsm_len hg2
          omega
        · rw [eabs]; omega
        · rw [eabs, Int.natAbs_natCast]
          exact Nat.lt_trans (sm_lt hg3) (Nat.pow_lt_pow_right (by decide) (by decide))
        · rw [eabs, hm] at h2
          exact q t H2 (Same.trans s1 s2) h2
end
end FC
set_option Elab.async false
set_option linter.all false
set_option maxRecDepth 100000
set_option maxHeartbeats 4000000
/-! refutes. -/
namespace FC
open PySem PySem.Spec PyProof.Rows L2
/-- a group's ties, in a dict -/
def TieAt (H : Hp) (d : Addr) (tied : Tie) : Prop := ∃ L : Lns, H d = some (.dK (L.map lkv)) ∧ L.map lsv = tied ∧ (∀ x ∈ L, VecF H x.2.2 x.2.1) ∧ (tied.map (·.1)).Nodup
/-- the ties, in a list held still -/
structure TiesAt (H : Hp) (ta : Addr) (ds : List Addr) (ties : List Tie) : Prop where
  lst : ∃ o, H ta = some (.frz o (.lst (ds.map V.ref)))
  nd : ds.Nodup
  len : ds.length = ties.length
  at_ : ∀ (i : Nat) (d : Addr) (tied : Tie), ds[i]? = some d → ties[i]? = some tied → TieAt H d tied
theorem TieAt.och {H H' : Hp} {d e : Addr} {tied : Tie} (o : Och e H H') (n : d ≠ e) (h : TieAt H d tied) : TieAt H' d tied := by
  obtain ⟨L, h1, h2, h3, h4⟩ := h
  exact ⟨L, o.off _ _ n h1, h2, fun x hx => vecf_och o (h3 x hx), h4⟩
theorem TieAt.same {H H' : Hp} {d : Addr} {tied : Tie} (s : Same H H') (h : TieAt H d tied) : TieAt H' d tied := by
  obtain ⟨L, h1, h2, h3, h4⟩ := h
  exact ⟨L, s _ _ h1, h2, fun x hx => (h3 x hx).same s, h4⟩
theorem TiesAt.same {H H' : Hp} {ta : Addr} {ds : List Addr} {ties : List Tie} (s : Same H H') (h : TiesAt H ta ds ties) : TiesAt H' ta ds ties := by
  obtain ⟨⟨o, h1⟩, h2, h3, h4⟩ := h
  exact ⟨⟨o, s _ _ h1⟩, h2, h3, fun i d tied e1 e2 => (h4 i d tied e1 e2).same s⟩
/-- what is off the dicts stands -/
def OffL (ds : List Addr) (H H' : Hp) : Prop := ∀ z o, z ∉ ds → H z = some o → H' z = some o
theorem OffL.refl (ds : List Addr) (H : Hp) : OffL ds H H := fun _ _ _ h => h
theorem OffL.same {ds : List Addr} {H H' : Hp} (s : Same H H') : OffL ds H H' := fun z o _ h => s z o h
theorem OffL.trans {ds : List Addr} {H H1 H2 : Hp} (x : OffL ds H H1) (y : OffL ds H1 H2) : OffL ds H H2 := fun z o n h => y z o n (x z o n h)
/-- a test -/
def RTst (K : PySem.W.Frag) (H : Hp) (v : V) (t : Tst) : Prop := ∃ a d, v = .ref a ∧ SqT K H a [.int t.1, .ref d] ∧ VecF H d t.2
theorem fst_RTst {K : PySem.W.Frag} : FSt (RTst K) := fun _ _ _ _ s ⟨a, d, e, h1, h2⟩ => ⟨a, d, e, sqt_wk s h1, vecf_wk s h2⟩
def GoneAt (G : Hp) : Option (Vec × Int) → V → Int → Prop
  | none, gv, gw => gv = .non ∧ gw = 0
  | some g, gv, gw => ∃ ga, gv = .ref ga ∧ VecF G ga g.1 ∧ gw = g.2
theorem find_mid {L : Lns} {A B : Tie} {k : Int} {t : Vec} (h : L.map lsv = A ++ (k, t) :: B) (ha : k ∉ A.map (·.1)) : ∃ x ∈ L, x.1 = k ∧ x.2.1 = t ∧ valV (L.map lkv) (.inl k) = some (.ref x.2.2) := by
  have hg : spnGet (A ++ (k, t) :: B) k = some t := by
    clear h
    induction A with
    | nil => unfold spnGet; rw [List.nil_append, List.lookup_cons, beq_self_eq_true]
    | cons p A ih =>
      rw [List.map_cons, List.mem_cons, not_or] at ha
      unfold spnGet at ih ⊢
      rw [List.cons_append, List.lookup_cons]
      have : (k == p.1) = false := beq_eq_false_iff_ne.mpr ha.1
      obtain ⟨p1, p2⟩ := p
      rw [this]
      exact ih ha.2
  rw [← h, spnGet_lsv] at hg
  cases hf : L.find? fun x => decide (x.1 = k) with
  | none => rw [hf] at hg; cases hg
  | some x =>
    rw [hf] at hg
    have h1 := List.find?_some hf
    refine ⟨x, List.mem_of_find?_eq_some hf, of_decide_eq_true h1, Option.some.inj hg, ?_⟩
    rw [valV_lkv, hf]
    rfl
theorem drop_lkv (L : Lns) (k : Int) : dropK (L.map lkv) (.inl k) = (L.filter fun x => !decide (x.1 = k)).map lkv := by
  unfold dropK
  rw [List.filter_map]
  congr 1
  refine List.filter_congr fun p _ => ?_
  show decide ((Sum.inl p.1 : Key) ≠ Sum.inl k) = !decide (p.1 = k)
  by_cases e : p.1 = k
  · rw [e]; simp
  · have : ¬ (Sum.inl p.1 : Key) = Sum.inl k := fun z => e (Sum.inl.inj z)
    simp [e, this]
theorem drop_mid {L : Lns} {A B : Tie} {k : Int} {t : Vec} (h : L.map lsv = A ++ (k, t) :: B) (ha : k ∉ A.map (·.1)) (hb : k ∉ B.map (·.1)) : (L.filter fun x => !decide (x.1 = k)).map lsv = A ++ B := by
  have e : (L.filter fun x => !decide (x.1 = k)).map lsv = (L.map lsv).filter fun p => !decide (p.1 = k) := by
    rw [List.filter_map]
    rfl
  have off : ∀ (Z : Tie), k ∉ Z.map (·.1) → Z.filter (fun p => !decide (p.1 = k)) = Z := fun Z hz => List.filter_eq_self.mpr fun p hp => by
    have : ¬ p.1 = k := fun e => hz (List.mem_map.mpr ⟨p, hp, e⟩)
    simp [this]
  rw [e, h, List.filter_append, List.filter_cons, off A ha, off B hb]
  simp
def spRefutes (K : PySem.W.Frag) : Sp := fun vs H Q _ => ∃ (v : V) (ta : Addr) (t : Tst) (ds : List Addr) (ties ties' : List Tie) (b : Bool), vs = [v, .ref ta] ∧ RTst K H v t ∧ TiesAt H ta ds ties ∧ refutes t ties = some (b, ties') ∧ ∀ H', TiesAt H' ta ds ties' → OffL ds H H' → Q (.bl b) H'
section
variable {P : Program} {w : World} {K : PySem.W.Frag} {mg : Str → Option Value} {base : Heap}
abbrev NRe : List Str := ["test", "ties", "group", "numbers", "tied", "gone", "gone_worth", "anchor", "worth"]
theorem scRefutes : FnScope NRe ["test", "ties"] (defScope sRefutes) := ⟨rfl, rfl, rfl, by decide +kernel, rfl, by decide +kernel, by decide +kernel⟩
theorem ok_refutes {f : Addr} {fd : FuncData} (F : Fun K "refutes" "refutes" sRefutes f fd) (mL : mg "list" = none) (CW : Cal P w K mg base CX0 1 "worth_of" ["tie", "numbers"] (spWorth K)) (CC : Cal P w K mg base CX0 2 "combined" ["vector", "times", "other", "other_times"] (spCombined K)) : FnOk P w K mg base CX0 3 f fd ["test", "ties"] (spRefutes K) := by
  refine F.ok scRefutes (fun vs H Q E h => ?_) (fun cdv A outer s H vs Q E hr h => ?_)
  · obtain ⟨v, ta, t, ds, ties, ties', b, rfl, _⟩ := h
    rfl
  · obtain ⟨v, ta, t, ds, ties, ties', b, rfl, hv, ht, hm, q⟩ := h
    have nd := scRefutes.nd
    have hr1 : Room 1 _ := hr.mono (by decide)
    refine ⟨_, pss_cons (ps_asg (pv 0) (pg_tup rfl (pgs_cons (pg_name (i := 2) nd rfl (Or.inl rfl)) (pgs_cons (pg_name (i := 3) nd rfl (Or.inl rfl)) pgs_nil))))
      (pss_cons (ps_set (i := 4) nd rfl (Or.inl rfl) (pe_ix (r := rIxL K) ix_list (pv 1) (pv 2) (fun _ _ => rfl)))
      (pss_cons (ps_set (i := 5) nd rfl (Or.inl rfl) pe_non)
      (pss_cons (ps_set (i := 6) nd rfl (Or.inl rfl) pe_int)
      (pss_cons (ps_for PassesOwn.never rfl (pi_list (pe_callTy (call_listD (by rfl)) (by rfl) mL (by decide +kernel) (pa_cons (pv 4) pa_nil))) (pg_name (i := 7) nd rfl (Or.inl rfl))
        (pss_cons (ps_set (i := 8) nd rfl (Or.inl rfl) (pe_cal CW hr1 pass0 (pa_cons (pe_dget (hu_of hr) (pv 4) (pv 7) (fun _ _ => rfl)) (pa_cons (pv 3) pa_nil))))
        (pss_one (ps_if (pw_and (pt_cmp (pc_neI (pv 8) pe_int)) (pw_and1 (pt_cmp (pc_isN (pv 5))))).pt
          (pss_cons (ps_set (i := 5) nd rfl (Or.inl rfl) (pe_dpop1 (pv 4) (pv 7) ⟨rfl, rfl, rfl, rfl⟩)) (pss_one (ps_set (i := 6) nd rfl (Or.inl rfl) (pv 8))))
          (pss_one (ps_if (pt_cmp (pc_neI (pv 8) pe_int)) (pss_one (ps_dput (hu_of hr) (pv 4) (pv 7) (pe_cal CC hr pass0 (pa_cons (pe_dget (hu_of hr) (pv 4) (pv 7) (fun _ _ => rfl)) (pa_cons (pv 6) (pa_cons (pv 5) (pa_cons (pe_un un_neg (pv 8)) pa_nil))))) rfl)) pss_nil))))))
      (pss_one (ps_ret (pe_cmp (pc_notN (pv 5))))))))), ?_⟩
    unfold refutes at hm
    obtain ⟨tied, hti, hm⟩ := bnd_some.mp hm
    obtain ⟨_, hg, hm⟩ := bnd_some.mp hm
    obtain ⟨qf, hqf, hm⟩ := bnd_some.mp hm
    have hm := Option.some.inj hm
    have hg : tied.length < 100000 := of_decide_eq_true (grd_some.mp hg)
    obtain ⟨a, nu, rfl, hta, hnu⟩ := hv
    obtain ⟨hi0, hti⟩ := at_some hti
    obtain ⟨⟨o, h1⟩, h2, h3, h4⟩ := ht
    have lt := get_lt hti
    obtain ⟨d, hd⟩ : ∃ d, ds[t.1.toNat]? = some d := ⟨ds[t.1.toNat]'(by omega), List.getElem?_eq_getElem (by omega)⟩
    obtain ⟨L0, d1, d2, d3, d4⟩ := h4 _ d tied hd hti
    have hsz : 200000 < sizeLine := by rw [sizeLine_eq]; omega
    have hL0 : L0.length = tied.length := by rw [← d2, List.length_map]
    refine ⟨_, rfl, a, _, rfl, hta, rfl, _, _, rfl, _, _, rfl, rfl, ?_⟩
    refine ⟨_, rfl, _, rfl, ta, _, t.1, .ref d, rfl, rfl, .inl (.inr ⟨o, h1⟩), atI_of hi0 (by rw [List.getElem?_map, hd]; rfl), ?_⟩
    refine ⟨_, rfl, d, _, rfl, .inl d1, fun kl hkl => ⟨kl, rfl, ⟨_, SqL.of upd_same⟩, ?_⟩⟩
    obtain ⟨H1, e1⟩ : ∃ H1, H1 = upd H kl (.lst ((L0.map lkv).map fun kv => kV kv.1)) := ⟨_, rfl⟩
    rw [← e1]
    have s1 : Same H H1 := by rw [e1]; exact same_upd (Same.refl H) hkl
    have ek : H1 kl = some (.lst ((L0.map lkv).map fun kv => kV kv.1)) := by rw [e1]; exact upd_same
    have nkd : kl ≠ d := fun z => by rw [z, d1] at hkl; cases hkl
    have hxl : ((L0.map lkv).map fun kv => kV kv.1).length = tied.length := by rw [List.length_map, List.length_map, hL0]
    have ocH : ∀ {G : Hp}, OffD d H1 G → Och d H G := fun o => ⟨OffD.trans (OffD.same s1) o, ⟨_, d1, True.intro⟩⟩
    refine for_it (walk_list (K := K) (a := kl) (xs := ((L0.map lkv).map fun kv => kV kv.1))) (fun i σ G => ∃ (qq : Option (Vec × Int) × Tie) (gv : V) (gw : Int) (y7 y8 : Option V) (L : Lns), (tied.take i).foldlM (rfS t.2) (none, []) = some qq ∧ σ = [some (.ref a), some (.ref ta), some (.int t.1), some (.ref nu), some (.ref d), some gv, some (.int gw), y7, y8] ∧ GoneAt G qq.1 gv gw ∧ G d = some (.dK (L.map lkv)) ∧ L.map lsv = qq.2 ++ tied.drop i ∧ (∀ x ∈ L, VecF G x.2.2 x.2.1) ∧ (qq.2.map (·.1)).Sublist ((tied.take i).map (·.1)) ∧ OffD d H1 G)
      ⟨(none, []), .non, 0, none, none, L0, rfl, rfl, ⟨rfl, rfl⟩, s1 _ _ d1, d2, fun x hx => (d3 x hx).same s1, List.Sublist.slnil, fun _ _ _ h => h⟩ (fun i σ G _ ⟨_, _, _, _, _, _, _, _, _, _, _, _, _, o⟩ => SqL.of (o _ _ nkd ek)) ?_ ?_
    · rintro i x σ G1 G2 hi ⟨qq, gv, gw, y7, y8, L, hf, rfl, hgo, hd3, hL, hLv, hsub, oG⟩ ⟨rfl, hx⟩
      obtain ⟨⟨k, tv⟩, hkt⟩ : ∃ kt, tied[i]? = some kt := ⟨tied[i]'(by omega), List.getElem?_eq_getElem (by omega)⟩
      have hxk : x = .int k := by
        rw [List.getElem?_map, List.getElem?_map] at hx
        have h5 : (L0.map lsv)[i]? = some (k, tv) := by rw [d2]; exact hkt
        rw [List.getElem?_map] at h5
        cases h6 : L0[i]? with
        | none => rw [h6] at h5; cases h5
        | some y =>
          rw [h6] at h5 hx
          have h7 := Option.some.inj h5
          have h8 := Option.some.inj hx
          have h9 : y.1 = k := congrArg Prod.fst h7
          rw [← h8]
          show V.int y.1 = V.int k
          rw [h9]
      subst hxk
      have ed : tied.drop i = (k, tv) :: tied.drop (i + 1) := by
        have lt2 := get_lt hkt
        rw [List.drop_eq_getElem_cons lt2]
        congr 1
        exact Option.some.inj ((List.getElem?_eq_getElem lt2).symm.trans hkt)
      have hnd : ((tied.take i).map (·.1) ++ k :: (tied.drop (i + 1)).map (·.1)).Nodup := by
        have h5 : tied = tied.take i ++ (k, tv) :: tied.drop (i + 1) := by rw [← ed, List.take_append_drop]
        rw [h5, List.map_append, List.map_cons] at d4
        exact d4
      rw [List.nodup_append, List.nodup_cons] at hnd
      have hA : k ∉ qq.2.map (·.1) := fun z => hnd.2.2 k (hsub.subset z) k List.mem_cons_self rfl
      have hB : k ∉ (tied.drop (i + 1)).map (·.1) := hnd.2.1.1
      rw [ed] at hL
      obtain ⟨y, hy, y1, y2, y3⟩ := find_mid hL hA
      obtain ⟨qq', h5, h6⟩ := foldM_step hqf hkt hf
      unfold rfS at h5
      obtain ⟨x0, hw, h5⟩ := bnd_some.mp h5
      obtain ⟨_, hg3, h5⟩ := bnd_some.mp h5
      have hg3 := grd_some.mp hg3
      have hw : worth tv t.2 = some x0 := hw
      have dg : DGet G2 d (.int k) (some (.ref y.2.2)) := by
        have := DGet.k (k := .inl k) hd3
        rw [y3] at this
        exact this
      have etk : (tied.take (i + 1)).map (·.1) = (tied.take i).map (·.1) ++ [k] := by rw [take_succ_get hkt, List.map_append]; rfl
      refine ⟨_, rfl, _, rfl, d, .ref y.2.2, rfl, dg, _, rfl, y.2.2, nu, tv, t.2, x0, rfl, y2 ▸ hLv y hy, vecf_och (ocH oG) hnu, hw, fun G3 s3 => ?_⟩
      have hd4 := s3 _ _ hd3
      have oG3 : OffD d H1 G3 := OffD.trans oG (OffD.same s3)
      have hLv3 : ∀ x ∈ L, VecF G3 x.2.2 x.2.1 := fun x hx => (hLv x hx).same s3
      have dg3 : DGet G3 d (.int k) (some (.ref y.2.2)) := by
        have := DGet.k (k := .inl k) hd4
        rw [y3] at this
        exact this
      refine ⟨_, rfl, x0, 0, rfl, rfl, _, rfl, ?_⟩
      by_cases hx0 : x0 = 0
      · rw [if_pos hx0] at h5
        have h5 := Option.some.inj h5
        refine iteF' (by simp [hx0]) ?_
        refine ⟨_, rfl, x0, 0, rfl, rfl, _, rfl, iteF' (by simp [hx0]) ?_⟩
        refine ⟨qq', gv, gw, _, _, L, h6, rfl, ?_, hd4, ?_, hLv3, ?_, oG3⟩
        · rw [← h5]
          cases hq1 : qq.1 with
          | none => rw [hq1] at hgo; exact hgo
          | some g =>
            rw [hq1] at hgo
            obtain ⟨ga, g1, g2, g3⟩ := hgo
            exact ⟨ga, g1, g2.same s3, g3⟩
        · rw [← h5, hL, List.append_assoc]
          rfl
        · rw [← h5, etk, List.map_append]
          exact hsub.append (List.Sublist.refl _)
      · rw [if_neg hx0] at h5
        refine iteT' (by simp [hx0]) ?_
        cases hq1 : qq.1 with
        | none =>
          rw [hq1] at hgo h5
          obtain ⟨rfl, rfl⟩ := hgo
          have h5 := Option.some.inj h5
          refine ⟨_, rfl, _, rfl, iteT' (by rfl) ?_⟩
          refine ⟨_, rfl, d, rfl, .inl ⟨_, .inl hd4⟩, _, rfl, _, .inl k, .ref y.2.2, hd4, rfl, y3, _, rfl, ?_⟩
          have e5 : upd G3 d (.dK (dropK (L.map lkv) (.inl k))) d = some (.dK ((L.filter fun x => !decide (x.1 = k)).map lkv)) := by rw [upd_same, drop_lkv]
          have oc : Och d G3 (upd G3 d (.dK (dropK (L.map lkv) (.inl k)))) := ⟨OffD.upd (fun _ _ _ h => h), ⟨_, hd4, True.intro⟩⟩
          refine ⟨qq', .ref y.2.2, x0, _, _, L.filter fun x => !decide (x.1 = k), h6, rfl, ?_, e5, ?_, fun x hx => vecf_och oc (hLv3 x (List.mem_filter.mp hx).1), ?_, OffD.upd oG3⟩
          · rw [← h5]
            exact ⟨y.2.2, rfl, vecf_och oc (y2 ▸ hLv3 y hy), rfl⟩
          · rw [← h5]
            exact drop_mid hL hA hB
          · rw [← h5, etk]
            exact hsub.trans (List.sublist_append_left _ _)
        | some g =>
          rw [hq1] at hgo h5
          obtain ⟨ga, rfl, hga, rfl⟩ := hgo
          obtain ⟨_, hg4, h5⟩ := bnd_some.mp h5
          have h5 := Option.some.inj h5
          have hg4 := grd_some.mp hg4
          rw [Bool.and_eq_true, Bool.and_eq_true] at hg4
          obtain ⟨g5, g6, g7⟩ := hg4
          refine ⟨_, rfl, _, rfl, iteF' (by rfl) ?_⟩
          refine ⟨_, rfl, x0, 0, rfl, rfl, _, rfl, iteT' (by simp [hx0]) ?_⟩
          have l1 : tv.length ≤ 2000 := vsm_len g5
          have l2 : g.1.length ≤ 2000 := vsm_len g6
          refine ⟨_, rfl, _, rfl, d, .ref y.2.2, rfl, dg3, _, rfl, _, rfl, _, rfl, x0, rfl, y.2.2, ga, tv, g.1, g.2, -x0, rfl, (y2 ▸ hLv3 y hy).vec, (hga.same s3).vec, by omega, bd_of g5, bd_of g6, sm_lt g7, by rw [Int.natAbs_neg]; exact sm_lt hg3, fun t5 G4 n5 s4 v5 => ?_⟩
          have hd5 := s4 _ _ hd4
          have hlen : (L.map lkv).length < sizeLine := by
            have h7 : L.length = (qq.2 ++ (k, tv) :: tied.drop (i + 1)).length := by rw [← hL, List.length_map]
            have h8 := hsub.length_le
            rw [List.length_map, List.length_map, List.length_take] at h8
            rw [List.length_append, List.length_cons, List.length_drop] at h7
            rw [List.length_map]
            omega
          refine ⟨_, rfl, _, rfl, d, _, rfl, DPut.k (k := .inl k) hd5 hlen, ?_⟩
          rw [putK_lkv L k (vcombined tv g.2 g.1 (-x0)) t5]
          have oc : Och d G4 (upd G4 d (.dK ((lput L k (vcombined tv g.2 g.1 (-x0)) t5).map lkv))) := ⟨OffD.upd (fun _ _ _ h => h), ⟨_, hd5, True.intro⟩⟩
          refine ⟨qq', .ref ga, g.2, _, _, lput L k (vcombined tv g.2 g.1 (-x0)) t5, h6, rfl, ?_, upd_same, ?_, fun x hx => ?_, ?_, OffD.upd (OffD.trans oG3 (OffD.same s4))⟩
          · rw [← h5]
            exact ⟨ga, rfl, vecf_och oc ((hga.same s3).same s4), rfl⟩
          · rw [lput_lsv, hL, spnPut_mid hA hB, ← h5, List.append_assoc]
            rfl
          · rcases lput_mem hx with h7 | ⟨h7, h8⟩
            · exact vecf_och oc ((hLv3 x h7).same s4)
            · rw [h7, h8]
              exact vecf_och oc v5
          · rw [← h5, etk, List.map_append]
            exact hsub.append (List.Sublist.refl _)
    · rintro σ G ⟨qq, gv, gw, y7, y8, L, hf, rfl, hgo, hd3, hL, hLv, hsub, oG⟩
      have eT : tied.take ((L0.map lkv).map fun kv => kV kv.1).length = tied := List.take_of_length_le (by omega)
      have eD : tied.drop ((L0.map lkv).map fun kv => kV kv.1).length = [] := List.drop_eq_nil_of_le (by omega)
      rw [eT] at hf hsub
      rw [eD, List.append_nil] at hL
      have hf' : tied.foldlM (rfS t.2) (none, []) = some qq := hf
      rw [hf'] at hqf
      obtain rfl := Option.some.inj hqf
      have hm1 : qq.1.isSome = b := congrArg Prod.fst hm
      have hm2 : ties.set t.1.toNat qq.2 = ties' := congrArg Prod.snd hm
      have eb : (!decide (gv = .non)) = b := by
        rw [← hm1]
        cases hq1 : qq.1 with
        | none => rw [hq1] at hgo; rw [hgo.1]; rfl
        | some g =>
          rw [hq1] at hgo
          obtain ⟨ga, rfl, _⟩ := hgo
          rfl
      refine ⟨_, rfl, ?_⟩
      have oc := ocH oG
      have hT : TiesAt G ta ds ties' := by
        refine ⟨⟨o, oc.at_ h1 id⟩, h2, by rw [← hm2, List.length_set]; exact h3, fun j e tj e1 e2 => ?_⟩
        rw [← hm2] at e2
        by_cases hj : t.1.toNat = j
        · subst hj
          rw [hd] at e1
          obtain rfl := Option.some.inj e1
          rw [List.getElem?_set_self', hti] at e2
          obtain rfl : qq.2 = tj := Option.some.inj e2
          exact ⟨L, hd3, hL, hLv, hsub.nodup d4⟩
        · rw [List.getElem?_set_ne hj] at e2
          exact (h4 j e tj e1 e2).och oc (fun z => hj (nodup_get h2 hd (by rw [← z]; exact e1)))
      have := q G hT (fun z u hz h => oc.off z u (fun e => hz (by rw [e]; exact List.mem_of_getElem? hd)) h)
      rw [← eb] at this
      exact this
end
end FC
set_option Elab.async false
set_option linter.all false
set_option maxRecDepth 100000
set_option maxHeartbeats 4000000
/-! test_ahead. -/
namespace FC
open PySem PySem.Spec PyProof.Rows L2
/-- a move of a machine, by its places -/
theorem mac_move {P : Program} {w : World} {K : PySem.W.Frag} {SC MCl : Addr} {H : Hp} {a : Addr} {X : MC} {ps : List Stp} {M : Mac} (h : MacAt P w K SC MCl H a X ps M) {k x : Int} {mv : List Mov} {e : Mov} (h1 : at? M.moves k = some mv) (h2 : at? mv x = some e) :
    ∃ b xs o bb, atI (X.es.map V.ref) k = some (.ref b) ∧ H b = some (.frz o (.lst xs)) ∧ atI xs x = some (.ref bb) ∧ MoveAt K H bb e := by
  obtain ⟨v1, v2, v3⟩ := h.moves
  obtain ⟨k0, h1⟩ := at_some h1
  obtain ⟨x0, h2⟩ := at_some h2
  have lt := get_lt h1
  obtain ⟨b, hb⟩ : ∃ b, X.es[k.toNat]? = some b := ⟨X.es[k.toNat]'(by omega), List.getElem?_eq_getElem (by omega)⟩
  obtain ⟨xs, ⟨o, hx⟩, hxl, hxa⟩ := v3 _ b mv hb h1
  have lt2 := get_lt h2
  obtain ⟨v, hv⟩ : ∃ v, xs[x.toNat]? = some v := ⟨xs[x.toNat]'(by omega), List.getElem?_eq_getElem (by omega)⟩
  obtain ⟨bb, rfl, hm⟩ := hxa _ v e hv h2
  exact ⟨b, xs, o, bb, atI_of k0 (by rw [List.getElem?_map, hb]; rfl), hx, atI_of x0 hv, hm⟩
/-- the anchors of a group -/
theorem grp_anchors {K : PySem.W.Frag} {H : Hp} {aa : Addr} {as : List (List Int)} (h : FL (RL RI) H aa as) {g : Int} {l : List Int} (e : at? as g = some l) : ∃ vs o b o', H aa = some (.frz o (.lst vs)) ∧ atI vs g = some (.ref b) ∧ H b = some (.frz o' (.lst (l.map V.int))) := by
  obtain ⟨vs, o, h1, h2⟩ := h
  obtain ⟨g0, e⟩ := at_some e
  obtain ⟨v, hv, b, rfl, ws, o', h3, h4⟩ := h2.get e
  have := ls_int h4
  subst this
  exact ⟨vs, o, b, o', h1, atI_of g0 hv, h3⟩
def spTestAhead (P : Program) (w : World) (K : PySem.W.Frag) (SC MCl GCl : Addr) : Sp := fun vs H Q _ => ∃ (ma ga nu : Addr) (g x : Int) (X : MC) (ps : List Stp) (M : Mac) (G : Grp) (numbers : Vec) (t : Tst), vs = [.ref ma, .ref ga, .int g, .int x, .ref nu] ∧ MacAt P w K SC MCl H ma X ps M ∧ GrpAt K GCl H ga G ∧ VecF H nu numbers ∧ testAhead M G g x numbers = some t ∧ ∀ (v : V) H', Same H H' → RTst K H' v t → Q v H'
section
variable {P : Program} {w : World} {K : PySem.W.Frag} {mg : Str → Option Value} {base : Heap} {SC MCl GCl : Addr}
abbrev NTa : List Str := ["machine", "groups", "group", "number", "numbers", "ahead", "anchor", "parts", "scale", "total", "key", "times"]
theorem scTestAhead : FnScope NTa ["machine", "groups", "group", "number", "numbers"] (defScope sTestAhead) := ⟨rfl, rfl, rfl, by decide +kernel, rfl, by decide +kernel, by decide +kernel⟩
theorem ok_testAhead {f : Addr} {fd : FuncData} (F : Fun K "test_ahead" "test_ahead" sTestAhead f fd) (T : McT K MCl) (TG : GrT K GCl) : FnOk P w K mg base CX0 1 f fd ["machine", "groups", "group", "number", "numbers"] (spTestAhead P w K SC MCl GCl) := by
  refine F.ok scTestAhead (fun vs H Q E h => ?_) (fun cdv A outer s H vs Q E hr h => ?_)
  · obtain ⟨ma, ga, nu, g, x, X, ps, M, G, numbers, t, rfl, _⟩ := h
    rfl
  · obtain ⟨ma, ga, nu, g, x, X, ps, M, G, numbers, t, rfl, hM, hG, hnu, hm, q⟩ := h
    have nd := scTestAhead.nd
    refine ⟨_, pss_cons (ps_set (i := 5) nd rfl (Or.inl rfl) pe_dnewK)
      (pss_cons (ps_for PassesOwn.never rfl (pi_list (pe_ix (r := rIxL K) ix_list (pe_fld (pv 1) rfl) (pv 2) (fun _ _ => rfl))) (pg_name (i := 6) nd rfl (Or.inl rfl))
        (pss_cons (ps_asg (pe_ix (r := rIxT K) ix_tup (pe_ix (r := rIxL K) ix_list (pe_ix (r := rIxL K) ix_list (pe_fld (pv 0) rfl) (pv 6) (fun _ _ => rfl)) (pv 3) (fun _ _ => rfl)) pe_int (fun _ _ => rfl)) (pg_tup rfl (pgs_cons (pg_name (i := 7) nd rfl (Or.inl rfl)) (pgs_cons (pg_name (i := 8) nd rfl (Or.inl rfl)) pgs_nil))))
        (pss_cons (ps_set (i := 9) nd rfl (Or.inl rfl) pe_int)
        (pss_cons (ps_for PassesOwn.never rfl (pi_items (pv 7)) (pg_tup rfl (pgs_cons (pg_name (i := 10) nd rfl (Or.inl rfl)) (pgs_cons (pg_name (i := 11) nd rfl (Or.inl rfl)) pgs_nil)))
          (pss_one (ps_aug (i := 9) nd rfl (Or.inl rfl) (pe_op op_mulW (pv 11) (pe_dget (hu_of hr) (pv 4) (pv 10) (fun _ _ => rfl))) ip_add)))
        (pss_one (ps_dput (hu_of hr) (pv 5) (pv 6) (pe_op op_fdivA (pv 9) (pv 8)) rfl))))))
      (pss_one (ps_ret (pe_tup (pa_cons (pv 2) (pa_cons (pe_frz (pv 5)) pa_nil)))))), ?_⟩
    unfold testAhead at hm
    obtain ⟨as, has, hm⟩ := bnd_some.mp hm
    obtain ⟨ahv, hah, hm⟩ := bnd_some.mp hm
    have hm := Option.some.inj hm
    obtain ⟨dxm, him⟩ := hM.ins
    obtain ⟨dxg, fa, oa, ca, aa, g1, g2, g3, g4, g5⟩ := hG
    obtain ⟨vs, o, b, o', k1, k2, k3⟩ := grp_anchors (K := K) g5 has
    intro ah nah
    have s1 := same_upd (o := .dK []) (Same.refl H) nah
    have e1 : upd H ah (.dK []) ah = some (.dK (kvs [])) := upd_same
    generalize upd H ah (.dK []) = H1 at s1 e1 ⊢
    refine ⟨_, rfl, ga, GCl, dxg, _, _, rfl, s1 _ _ g1, TG.cl, TG.na, rfl, _, rfl, aa, _, g, .ref b, rfl, rfl, .inl (.inr ⟨o, s1 _ _ k1⟩), k2, b, rfl, ⟨_, .inl (.inr ⟨o', s1 _ _ k3⟩)⟩, ?_⟩
    refine for_it (walk_list (K := K) (a := b) (xs := as.map V.int)) (fun i σ G' => ∃ (v : Vec) (y6 y7 y8 y9 y10 y11 : Option V), (as.take i).foldlM (taA M x numbers) [] = some v ∧ σ = [some (.ref ma), some (.ref ga), some (.int g), some (.int x), some (.ref nu), some (.ref ah), y6, y7, y8, y9, y10, y11] ∧ Same H G' ∧ G' ah = some (.dK (kvs v)) ∧ Dst v)
      ⟨[], none, none, none, none, none, none, rfl, rfl, s1, e1, List.nodup_nil⟩ (fun i σ G' _ ⟨_, _, _, _, _, _, _, _, _, sg, _⟩ => .inl (.inr ⟨o', sg _ _ k3⟩)) ?_ ?_
    · rintro i xv σ G1 G2 hi ⟨v, y6, y7, y8, y9, y10, y11, hf, rfl, sG, hv, dv⟩ ⟨rfl, hx⟩
      rw [List.getElem?_map] at hx
      obtain ⟨a, ha, rfl⟩ := Option.map_eq_some_iff.mp hx
      obtain ⟨v', h1, h2⟩ := foldM_step hah ha hf
      unfold taA at h1
      obtain ⟨mv, m1, h1⟩ := bnd_some.mp h1
      obtain ⟨e, m2, h1⟩ := bnd_some.mp h1
      obtain ⟨tot, m3, h1⟩ := bnd_some.mp h1
      obtain ⟨_, m4, h1⟩ := bnd_some.mp h1
      have h1 := Option.some.inj h1
      have m4 := grd_some.mp m4
      rw [Bool.and_eq_true, Bool.and_eq_true, Bool.and_eq_true, decide_eq_true_eq, decide_eq_true_eq] at m4
      obtain ⟨m4, m5, m6, m7⟩ := m4
      have hM2 := hM.same sG
      obtain ⟨w1, w2, w3⟩ := hM2.moves
      obtain ⟨eb, xs, oo, bb, n1, n2, n3, gg, bl, n4, n5, dd, n6, n7⟩ := mac_move hM2 m1 m2
      refine ⟨_, rfl, ma, MCl, dxm, _, _, rfl, sG _ _ him, T.cl, T.nmv, rfl, _, rfl, X.mv, _, a, .ref eb, rfl, rfl, SqL.of w1, n1, _, rfl, eb, _, x, .ref bb, rfl, rfl, .inl (.inr ⟨oo, n2⟩), n3, bb, _, 2, .ref bl, rfl, rfl, n4, atI_nat (j := 2) rfl, ?_⟩
      refine ⟨bl, _, rfl, n6, rfl, _, _, rfl, _, _, rfl, rfl, ?_⟩
      obtain ⟨⟨od, hd⟩, ddst⟩ := n7
      refine ⟨_, rfl, dd, od, kvs e.2.2.1, rfl, hd, ?_⟩
      have nad : ah ≠ dd := fun z => by rw [z, hd] at hv; cases hv
      refine for_it (walk_items (d := dd) (o := od) (kvs := kvs e.2.2.1)) (fun n σ G3 => ∃ tt y z, (e.2.2.1.take n).foldlM (wrS numbers) 0 = some tt ∧ σ = [some (.ref ma), some (.ref ga), some (.int g), some (.int x), some (.ref nu), some (.ref ah), some (.int a), some (.ref dd), some (.int e.2.2.2), some (.int tt), y, z] ∧ Same G2 G3) ⟨0, _, _, rfl, rfl, Same.refl G2⟩ (fun n σ G3 _ ⟨_, _, _, _, _, s⟩ => s _ _ hd) ?_ ?_
      · rintro n xv σ G3 G4 hn ⟨tt, y, z, ht, rfl, s3⟩ ⟨Tt, x1, x2, rfl, hT, rfl, e1', e2'⟩
        obtain ⟨k, xx, hp, rfl, rfl⟩ := kvs_get e1' e2'
        obtain ⟨tt', p1, p2⟩ := foldM_step m3 hp ht
        unfold wrS at p1
        obtain ⟨m, hm1, p1⟩ := bnd_some.mp p1
        obtain ⟨_, hg, p1⟩ := bnd_some.mp p1
        have p1 := Option.some.inj p1
        have hg := grd_some.mp hg
        rw [Bool.and_eq_true, Bool.and_eq_true] at hg
        have s4 := same_upd (o := .tup [V.int k, .int xx]) s3 hT
        have dg := (hnu.same (Same.trans sG s4)).vec.dget k
        have hm1 : vget numbers k = some m := hm1
        rw [hm1] at dg
        refine ⟨Tt, [.int k, .int xx], rfl, sqt_new, rfl, _, _, rfl, _, _, rfl, rfl, ?_⟩
        refine ⟨_, rfl, _, rfl, _, rfl, _, rfl, nu, .int m, rfl, dg, xx, m, rfl, rfl, wide_mul (sm_lt hg.2.1) (sm_lt hg.2.2) (by decide) (by decide) (by decide), _, _, rfl, rfl, ?_⟩
        exact ⟨tt', _, _, p2, by rw [← p1]; rfl, s4⟩
      · rintro σ G3 ⟨tt, y, z, ht, rfl, s3⟩
        rw [List.length_map, List.take_length] at ht
        have hm' : e.2.2.1.foldlM (wrS numbers) 0 = some tot := m3
        rw [hm'] at ht
        obtain rfl := Option.some.inj ht
        have hv3 := s3 _ _ hv
        refine ⟨_, rfl, _, rfl, tot, e.2.2.2, rfl, rfl, ⟨Int.ne_of_gt m6, Nat.lt_trans (sm_lt m5) (Nat.pow_lt_pow_right (by decide) (by decide))⟩, _, rfl, _, rfl, ah, _, rfl, DPut.k (k := .inl a) hv3 (by rw [List.length_map, sizeLine_eq]; omega), ?_⟩
        refine ⟨v', _, _, _, _, _, _, h2, rfl, Same.updn (Same.trans sG s3) nah, ?_, by rw [← h1]; exact dv.put _ _⟩
        rw [upd_same, putK_kvs, ← h1, Int.fdiv_eq_ediv_of_nonneg tot (Int.le_of_lt m6)]
    · rintro σ G1 ⟨v, y6, y7, y8, y9, y10, y11, hf, rfl, sG, hv, dv⟩
      rw [List.length_map, List.take_length] at hf
      have hf' : as.foldlM (taA M x numbers) [] = some v := hf
      rw [hf'] at hah
      obtain rfl := Option.some.inj hah
      refine ⟨_, rfl, _, rfl, .inr ⟨ah, _, rfl, hv, True.intro, fun oo => ⟨(by show 2 ≤ sizeLine; decide), fun t0 nt0 => ?_⟩⟩⟩
      have s2 : Same H (upd G1 ah (.frz oo (.dK (kvs v)))) := Same.updn sG nah
      have s3 := same_upd (o := .tup [V.int g, .ref ah]) (Same.refl _) nt0
      refine q (.ref t0) _ (Same.trans s2 s3) ⟨t0, ah, rfl, ?_, ⟨oo, s3 _ _ (by rw [← hm]; exact upd_same)⟩, by rw [← hm]; exact dv⟩
      rw [← hm]
      exact sqt_new
end
end FC
set_option Elab.async false
set_option linter.all false
set_option maxRecDepth 100000
set_option maxHeartbeats 4000000
/-! first_tests. -/
namespace FC
open PySem PySem.Spec PyProof.Rows L2
theorem mm81 {ps : List Stp} (h : (∀ p ∈ ps, p.ok) ∧ ps.length ≤ 4) : 0 < (moduliOf ps).2 ∧ (moduliOf ps).2 ≤ 81 ∧ (moduliOf ps).2.natAbs < 2 ^ 2000 := by
  obtain ⟨k1, k2, k3, k4⟩ := moduli_le h.1
  have h0 := h.2
  have h1 : (3 : Nat) ^ ps.length ≤ 3 ^ 4 := Nat.pow_le_pow_right (by decide) h.2
  have h2 : ((3 ^ ps.length : Nat) : Int) ≤ ((3 ^ 4 : Nat) : Int) := Int.ofNat_le.mpr h1
  have h3 : ((3 ^ ps.length : Nat) : Int) = (3 : Int) ^ ps.length := by exact_mod_cast rfl
  have h4 : ((3 ^ 4 : Nat) : Int) = 81 := rfl
  have h5 : (moduliOf ps).2 ≤ 81 := by omega
  exact ⟨k1, h5, pow3_lt (by omega) k1 k2⟩
theorem two2000 : (2 : Int).natAbs < 2 ^ 2000 := Nat.lt_of_lt_of_le (by decide : 2 < 2 ^ 2) (Nat.pow_le_pow_right (by decide) (by decide))
def spFirstTests (P : Program) (w : World) (K : PySem.W.Frag) (SC MCl GCl : Addr) : Sp := fun vs H Q _ => ∃ (ma ga : Addr) (X : MC) (ps : List Stp) (M : Mac) (G : Grp) (r : List Tst), vs = [.ref ma, .ref ga] ∧ MacAt P w K SC MCl H ma X ps M ∧ GrpAt K GCl H ga G ∧ firstTests M G (moduliOf ps).2 = some r ∧ G.anchors.length < 100000 ∧ ∀ (t : Addr) H', Same H H' → FL (RTst K) H' t r → Q (.ref t) H'
section
variable {P : Program} {w : World} {K : PySem.W.Frag} {mg : Str → Option Value} {base : Heap} {SC MCl GCl : Addr}
abbrev NFt : List Str := ["machine", "groups", "tests", "group", "anchors", "number", "many", "_", "place", "numbers", "anchor"]
theorem scFirstTests : FnScope NFt ["machine", "groups"] (defScope sFirstTests) := ⟨rfl, rfl, rfl, by decide +kernel, rfl, by decide +kernel, by decide +kernel⟩
theorem ok_firstTests {f : Addr} {fd : FuncData} (F : Fun K "first_tests" "first_tests" sFirstTests f fd) (T : McT K MCl) (TG : GrT K GCl) (B : Blt mg) (mE : mg "enumerate" = none) : FnOk P w K mg base CX0 1 f fd ["machine", "groups"] (spFirstTests P w K SC MCl GCl) := by
  refine F.ok scFirstTests (fun vs H Q E h => ?_) (fun cdv A outer s H vs Q E hr h => ?_)
  · obtain ⟨ma, ga, X, ps, M, G, r, rfl, _⟩ := h
    rfl
  · obtain ⟨ma, ga, X, ps, M, G, r, rfl, hM, hG, hm, hgl, q⟩ := h
    have nd := scFirstTests.nd
    refine ⟨_, pss_cons (ps_set (i := 2) nd rfl (Or.inl rfl) (pe_lst pa_nil))
      (pss_cons (ps_for PassesOwn.never rfl (pi_enum (by rfl) mE (pa_cons (pe_fld (pv 1) rfl) pa_nil)) (pg_tup rfl (pgs_cons (pg_name (i := 3) nd rfl (Or.inl rfl)) (pgs_cons (pg_name (i := 4) nd rfl (Or.inl rfl)) pgs_nil)))
        (pss_one (ps_for PassesOwn.never rfl (pi_range1 (by rfl) B.range (pa_cons (pe_op op_mulW pe_int (pe_fld (pv 0) rfl)) pa_nil)) (pg_name (i := 5) nd rfl (Or.inr rfl))
          (pss_cons (ps_asg (pe_ix (r := rIxT K) ix_tup (pe_ix (r := rIxL K) ix_list (pe_fld (pv 1) rfl) (pv 3) (fun _ _ => rfl)) (pe_op op_mod (pv 5) (pe_fld (pv 0) rfl)) (fun _ _ => rfl)) (pg_tup rfl (pgs_cons (pg_name (i := 6) nd rfl (Or.inl rfl)) (pgs_cons (pg_name (i := 7) nd rfl (Or.inl rfl)) pgs_nil))))
          (pss_one (ps_for PassesOwn.never rfl (pi_range1 (by rfl) B.range (pa_cons (pv 6) pa_nil)) (pg_name (i := 8) nd rfl (Or.inr rfl))
            (pss_cons (ps_setDc (i := 9) (own := [("anchor", 10)]) (g := gName 10) (tt := tYes) (tk := tVar 10) (tv := tOp (rIxT K) (tOp (rIxT K) (tOp (rIxL K) (tOp (rIxL K) (tFld K (tVar 0) "moves") (tVar 10)) (tVar 5)) (tC (.int 0))) (tVar 8)) rfl nd rfl rfl (sw_dict rfl rfl rfl (by decide +kernel)) (pi_list (pv 4)) (blkOk_by (own := [("anchor", 10)]) (N := NFt) (sc := defScope sFirstTests) (by decide +kernel))
                (fun _ _ _ _ _ => pg_name (i := 10) nd rfl (Or.inl rfl)) (fun _ _ _ _ _ => pts_nil) (fun _ _ _ _ _ => pv 10)
                (fun _ _ _ _ _ => pe_ix (r := rIxT K) ix_tup (pe_ix (r := rIxT K) ix_tup (pe_ix (r := rIxL K) ix_list (pe_ix (r := rIxL K) ix_list (pe_fld (pv 0) rfl) (pv 10) (fun _ _ => rfl)) (pv 5) (fun _ _ => rfl)) pe_int (fun _ _ => rfl)) (pv 8) (fun _ _ => rfl)))
            (pss_one (ps_expr (pe_bm PySem.F.plainAttrs_list PySem.F.slot_list_append PySem.F.type_list_append mt_append (pv 2) (pa_cons (pe_tup (pa_cons (pv 3) (pa_cons (pe_frz (pv 9)) pa_nil))) pa_nil)))))))))))
      (pss_one (ps_ret (pe_frz (pv 2))))), ?_⟩
    obtain ⟨k1, k2, k3⟩ := mm81 hM.ok
    have hX : X.m = (moduliOf ps).2 := hM.modulus
    obtain ⟨dxm, him⟩ := hM.ins
    obtain ⟨dxg, fa, oa, ca, aa, g1, g2, g3, g4, g5⟩ := hG
    obtain ⟨cvs, co, c1, c2⟩ := g4
    obtain ⟨avs, ao, a1, a2⟩ := g5
    have hal := a2.len
    have hsz : 200000 < sizeLine := by rw [sizeLine_eq]; omega
    refine ⟨(by show 0 ≤ sizeLine; omega), fun tl ntl => ?_⟩
    have s1 := same_upd (o := .lst []) (Same.refl H) ntl
    have e1 : upd H tl (.lst []) tl = some (.lst []) := upd_same
    generalize upd H tl (.lst []) = H1 at s1 e1 ⊢
    refine ⟨_, rfl, ga, GCl, dxg, _, _, rfl, s1 _ _ g1, TG.cl, TG.na, rfl, aa, _, rfl, .inl (.inr ⟨ao, s1 _ _ a1⟩), ?_⟩
    refine for_it (walk_enum (K := K) (a := aa) (xs := avs)) (fun i σ G' => ∃ (acc : List Tst) (us : List V) (y3 y4 y5 y6 y7 y8 y9 : Option V), (G.anchors.zipIdx.take i).foldlM (ftG M G (moduliOf ps).2) [] = some acc ∧ σ = [some (.ref ma), some (.ref ga), some (.ref tl), y3, y4, y5, y6, y7, y8, y9, none] ∧ Same H G' ∧ G' tl = some (.lst us) ∧ Ls (RTst K) G' us acc)
      ⟨[], [], none, none, none, none, none, none, none, rfl, rfl, s1, e1, .nil⟩ (fun i σ G' _ ⟨_, _, _, _, _, _, _, _, _, _, _, sg, _⟩ => .inl (.inr ⟨ao, sg _ _ a1⟩)) ?_ ?_
    · rintro i x σ G1 G2 hi ⟨acc, us, y3, y4, y5, y6, y7, y8, y9, hf, rfl, sG, hu, hls⟩ ⟨Tt, x1, x2, rfl, hT, rfl, e1', e2'⟩
      obtain rfl := Option.some.inj e1'
      have e2' : avs[i]? = some x2 := e2'
      obtain ⟨as, has⟩ : ∃ as, G.anchors[i]? = some as := ⟨G.anchors[i]'(by omega), List.getElem?_eq_getElem (by omega)⟩
      obtain ⟨ab, rfl, ws, ao', b1, b2⟩ := a2.at_ i x2 as e2' has
      have := ls_int b2
      subst this
      have hz : G.anchors.zipIdx[i]? = some (as, i) := by
        rw [List.getElem?_zipIdx, has, Nat.zero_add]
        rfl
      obtain ⟨acc1, h1, h2⟩ := foldM_step hm hz hf
      unfold ftG at h1
      obtain ⟨_, hg0, h1⟩ := bnd_some.mp h1
      have hg0 : as.length < 100000 := of_decide_eq_true (grd_some.mp hg0)
      have h1 : (upto (2 * (moduliOf ps).2)).foldlM (ftX M G (moduliOf ps).2 i as) acc = some acc1 := h1
      have s2 := same_upd (o := .tup [V.int (i : Nat), .ref ab]) (Same.refl G1) hT
      have sG2 := Same.trans sG s2
      refine ⟨Tt, [.int (i : Nat), .ref ab], rfl, sqt_new, rfl, _, _, rfl, _, _, rfl, rfl, ?_⟩
      have hu2 := s2 _ _ hu
      have hls2 := hls.wk fst_RTst (Wk.of s2)
      generalize upd G1 Tt (.tup [V.int (i : Nat), .ref ab]) = G2 at s2 sG2 hu2 hls2 ⊢
      refine ⟨_, rfl, ma, MCl, dxm, _, _, rfl, sG2 _ _ him, T.cl, T.nm, rfl, 2, X.m, rfl, rfl, by rw [hX]; exact wide_mul two2000 k3 (by decide) (by decide) (by decide), _, rfl, by clear k3; omega, by clear k3; omega, ?_⟩
      refine for_it (walk_range (lo := 0) (n := (2 * X.m).toNat)) (fun j σ G' => ∃ (acc2 : List Tst) (us : List V) (y5 y6 y7 y8 y9 : Option V), ((upto (2 * (moduliOf ps).2)).take j).foldlM (ftX M G (moduliOf ps).2 i as) acc = some acc2 ∧ σ = [some (.ref ma), some (.ref ga), some (.ref tl), some (.int (i : Nat)), some (.ref ab), y5, y6, y7, y8, y9, none] ∧ Same H G' ∧ G' tl = some (.lst us) ∧ Ls (RTst K) G' us acc2) ?_ (fun _ _ _ _ _ => True.intro) ?_ ?_
      · exact ⟨acc, us, y5, y6, y7, y8, y9, rfl, rfl, sG2, hu2, hls2⟩
      · clear hu2 hls2 sG2 s2 hT hf hu hls
        rintro j x σ G3 G4 hj ⟨acc2, us, y5, y6, y7, y8, y9, hf, rfl, sG3, hu, hls⟩ ⟨rfl, rfl⟩
        have e0 : (0 : Int) + (j : Int) = j := Int.zero_add _
        show gName 5 (V.int (0 + (j : Int))) _ _ _
        rw [e0]
        obtain ⟨acc3, h3, h4⟩ := foldM_step h1 (upto_get (by rw [← hX]; exact hj)) hf
        unfold ftX at h3
        obtain ⟨line, hline, h3⟩ := bnd_some.mp h3
        obtain ⟨qq, hqq, h3⟩ := bnd_some.mp h3
        obtain ⟨_, hg1, h3⟩ := bnd_some.mp h3
        have hg1 := grd_some.mp hg1
        rw [Bool.and_eq_true, decide_eq_true_eq, decide_eq_true_eq] at hg1
        obtain ⟨hg1, hg2⟩ := hg1
        have h3 : (upto qq.1).foldlM (ftP M i as (j : Int)) acc2 = some acc3 := h3
        obtain ⟨lv, hlv, lb, rfl, lvs, l1, l2⟩ := c2.get hline
        obtain ⟨hq0, hqq⟩ := at_some hqq
        obtain ⟨qv, hqv, qt, rfl, hqt⟩ := l2.get hqq
        refine ⟨_, rfl, ga, GCl, dxg, _, _, rfl, sG3 _ _ g1, TG.cl, TG.nc, rfl, _, rfl, ca, _, (i : Int), .ref lb, rfl, rfl, .inl (.inr ⟨co, sG3 _ _ c1⟩), atI_nat hlv, _, rfl, _, rfl, ma, MCl, dxm, _, _, rfl, sG3 _ _ him, T.cl, T.nm, rfl, (j : Int), X.m, rfl, rfl, by rw [hX]; exact k1, lb, _, _, .ref qt, rfl, rfl, sqt_same sG3 l1, by rw [hX]; exact atI_of hq0 hqv, ?_⟩
        refine ⟨qt, _, rfl, sqt_same sG3 hqt, rfl, _, _, rfl, _, _, rfl, rfl, ?_⟩
        refine ⟨_, rfl, qq.1, rfl, by omega, by omega, ?_⟩
        refine for_it (walk_range (lo := 0) (n := qq.1.toNat)) (fun p σ G' => ∃ (acc4 : List Tst) (us : List V) (y8 y9 : Option V), ((upto qq.1).take p).foldlM (ftP M i as (j : Int)) acc2 = some acc4 ∧ σ = [some (.ref ma), some (.ref ga), some (.ref tl), some (.int (i : Nat)), some (.ref ab), some (.int (j : Nat)), some (.int qq.1), some (.int qq.2), y8, y9, none] ∧ Same H G' ∧ G' tl = some (.lst us) ∧ Ls (RTst K) G' us acc4) ?_ (fun _ _ _ _ _ => True.intro) ?_ ?_
        · exact ⟨acc2, us, y8, y9, rfl, rfl, sG3, hu, hls⟩
        · clear hu hls sG3 hf
          rintro p x σ G5 G6 hp ⟨acc4, us, y8, y9, hf, rfl, sG5, hu, hls⟩ ⟨rfl, rfl⟩
          have e0 : (0 : Int) + (p : Int) = p := Int.zero_add _
          show gName 8 (V.int (0 + (p : Int))) _ _ _
          rw [e0]
          obtain ⟨acc5, h5, h6⟩ := foldM_step h3 (upto_get hp) hf
          unfold ftP at h5
          obtain ⟨nums, hnums, h5⟩ := bnd_some.mp h5
          obtain ⟨_, hg3, h5⟩ := bnd_some.mp h5
          have h5 := Option.some.inj h5
          have hg3 := of_decide_eq_true (grd_some.mp hg3)
          have b1' := sG5 _ _ b1
          refine ⟨_, rfl, ab, rfl, ⟨_, .inl (.inr ⟨ao', b1'⟩)⟩, fun D hD => ?_⟩
          refine dc_it (walk_list (K := K) (a := ab) (xs := as.map V.int)) (fun n H' => Same G6 H' ∧ ∃ v, (as.take n).foldlM (ftA M (j : Int) (p : Int)) [] = some v ∧ Dst v ∧ H' D = some (.dK (kvs v)) ∧ v.length ≤ n) ⟨same_upd (Same.refl G6) hD, [], rfl, List.nodup_nil, upd_same, Nat.le_refl _⟩ (fun n H' _ z => .inl (.inr ⟨ao', z.1 _ _ b1'⟩)) ?_ ?_
          · rintro n x G7 G8 hn ⟨s7, v, hv, dv, h7, lv'⟩ ⟨rfl, hx⟩
            rw [List.getElem?_map] at hx
            obtain ⟨a, ha, rfl⟩ := Option.map_eq_some_iff.mp hx
            obtain ⟨v', h8, h9⟩ := foldM_step hnums ha hv
            unfold ftA at h8
            obtain ⟨mv, m1, h8⟩ := bnd_some.mp h8
            obtain ⟨e, m2, h8⟩ := bnd_some.mp h8
            obtain ⟨nn, m3, h8⟩ := bnd_some.mp h8
            have h8 := Option.some.inj h8
            obtain ⟨m30, m3⟩ := at_some m3
            have hM2 := hM.same (Same.trans sG5 s7)
            obtain ⟨w1, w2, w3⟩ := hM2.moves
            obtain ⟨eb, xs, oo, bb, n1, n2, n3, gg, bl, n4, n5, n6⟩ := mac_move hM2 m1 m2
            refine ⟨rfl, _, rfl, _, rfl, ma, MCl, dxm, _, _, rfl, Same.trans sG5 s7 _ _ him, T.cl, T.nmv, rfl, _, rfl, X.mv, _, a, .ref eb, rfl, rfl, SqL.of w1, n1, _, rfl, eb, _, (j : Int), .ref bb, rfl, rfl, .inl (.inr ⟨oo, n2⟩), n3, bb, _, 0, .ref gg, rfl, rfl, n4, atI_nat (j := 0) rfl, _, rfl, gg, _, (p : Int), .int nn, rfl, rfl, n5, atI_of m30 (by rw [List.getElem?_map, m3]; rfl), kvs v, .inl a, rfl, h7, ?_, ?_⟩
            · rw [List.length_map] at hn ⊢
              omega
            · refine ⟨Same.updn s7 hD, v', h9, ?_, ?_, ?_⟩
              · rw [← h8]; exact dv.put _ _
              · rw [upd_same, putK_kvs, ← h8]
              · rw [← h8]
                exact Nat.le_trans (vput_len v a nn) (Nat.succ_le_succ lv')
          · rintro G7 ⟨s7, v, hv, dv, h7, lv'⟩
            rw [List.length_map, List.take_length] at hv
            have hv' : as.foldlM (ftA M (j : Int) (p : Int)) [] = some v := hv
            rw [hv'] at hnums
            obtain rfl := Option.some.inj hnums
            have hu7 := s7 _ _ hu
            refine ⟨_, rfl, .inl ⟨rfl, _, SqL.of hu7⟩, _, rfl, _, rfl, .inr ⟨D, _, rfl, h7, True.intro, fun oD => ⟨(by show 2 ≤ sizeLine; decide), fun t0 nt0 => ?_⟩⟩⟩
            have s8 : Same G6 (upd G7 D (.frz oD (.dK (kvs v)))) := Same.updn s7 hD
            have v8 : VecF (upd G7 D (.frz oD (.dK (kvs v)))) D v := ⟨⟨oD, upd_same⟩, dv⟩
            have s9 := same_upd (o := .tup [V.int (i : Nat), .ref D]) (Same.refl _) nt0
            have v9 := v8.same s9
            have ht9 : SqT K (upd (upd G7 D (.frz oD (.dK (kvs v)))) t0 (.tup [V.int (i : Nat), .ref D])) t0 [V.int (i : Nat), .ref D] := sqt_new
            have s10 := Same.trans s8 s9
            generalize upd (upd G7 D (.frz oD (.dK (kvs v)))) t0 (.tup [V.int (i : Nat), .ref D]) = G9 at s10 v9 ht9 ⊢
            have hu9 := s10 _ _ hu
            have hul := hls.len
            refine ⟨tl, _, _, rfl, rfl, hu9, by omega, ?_⟩
            have f9 : Fch G9 (upd G9 tl (.lst (us ++ [.ref t0]))) := fch_upd (Fch.refl _) hu9 True.intro
            refine ⟨acc5, us ++ [.ref t0], _, _, h6, rfl, Same.updn (Same.trans sG5 s10) ntl, upd_same, ?_⟩
            rw [← h5]
            exact ((hls.wk fst_RTst (Wk.of s10)).snoc ⟨t0, D, rfl, ht9, v9⟩).fch fst_RTst f9
        · rintro σ G5 ⟨acc4, us, y8, y9, hf, rfl, sG5, hu, hls⟩
          have eT : (upto qq.1).take qq.1.toNat = upto qq.1 := List.take_of_length_le (Nat.le_of_eq (upto_len _))
          rw [eT, h3] at hf
          obtain rfl := Option.some.inj hf
          exact ⟨acc3, us, _, _, _, _, _, h4, rfl, sG5, hu, hls⟩
      · rintro σ G3 ⟨acc2, us, y5, y6, y7, y8, y9, hf, rfl, sG3, hu, hls⟩
        have eT : (upto (2 * (moduliOf ps).2)).take (2 * X.m).toNat = upto (2 * (moduliOf ps).2) := by rw [hX]; exact List.take_of_length_le (Nat.le_of_eq (upto_len _))
        rw [eT, h1] at hf
        obtain rfl := Option.some.inj hf
        exact ⟨acc1, us, _, _, _, _, _, _, _, h2, rfl, sG3, hu, hls⟩
    · rintro σ G1 ⟨acc, us, y3, y4, y5, y6, y7, y8, y9, hf, rfl, sG, hu, hls⟩
      have eT : G.anchors.zipIdx.take avs.length = G.anchors.zipIdx := List.take_of_length_le (by rw [List.length_zipIdx]; omega)
      rw [eT] at hf
      have hm' : G.anchors.zipIdx.foldlM (ftG M G (moduliOf ps).2) [] = some r := hm
      rw [hm'] at hf
      obtain rfl := Option.some.inj hf
      refine ⟨_, rfl, .inr ⟨tl, _, rfl, hu, True.intro, fun ob => ?_⟩⟩
      exact q tl _ (Same.updn sG ntl) ⟨us, ob, upd_same, hls.fch fst_RTst (fch_upd (Fch.refl _) hu True.intro)⟩
end
end FC
set_option Elab.async false
set_option linter.all false
set_option maxRecDepth 100000
set_option maxHeartbeats 2000000
/-! enumerate(tuple). -/
namespace FC
open PySem PySem.Spec PyProof.Rows L2
open AutoSeq1 (wpAny_loadPart')
theorem meets_enumerate_newTup (l : Addr) (items : Array Value) (n : Nat) (dct : Option Addr) (sl : Array (Option Value)) :
    Meets (Builtin.«enumerate.__new__» ⟨[.type "enumerate", .ref l], []⟩) (fun _ R s => s.heap.get? l = some { cls := .type "tuple", dict := dct, data := .seq items n, slots := sl } ∧
      R (.ok (.ret (.ref (s.heap.push { cls := .type "tuple_iterator", data := .fields #[.ref l, .int 0 0] }).objs.size)))
        { s with heap := (s.heap.push { cls := .type "tuple_iterator", data := .fields #[.ref l, .int 0 0] }).push { cls := .type "enumerate", data := .fields #[.none, .bool false, .ref s.heap.objs.size, rawInt 0, .none, .none] } }) :=
  .of_wp fun prog w A R s h => by
    obtain ⟨hp, g, d, tk, os⟩ := s; obtain ⟨hl, h⟩ := h
    have hsub := sub_enumerate
    have hL : Heap.IsTuple (Shared.heap ⟨hp, g, d, tk, os⟩) l items := ⟨_, hl, rfl, n, rfl⟩
    wp_walk using wpAny_loadPart' hl
    refine wpAny_stack_any fun st => wpAny_pure ?_
    split
    · rename_i c _ _ _ _ _
      cases (c == Value.type "enumerate")
      · wp_walk using wpAny_loadPart' hl, wpAny_pyIter_tuple hL
        exact ⟨_, rfl, h⟩
      · wp_walk using wpAny_loadPart' hl, wpAny_pyIter_tuple hL
        exact ⟨_, rfl, h⟩
    · wp_walk using wpAny_loadPart' hl, wpAny_pyIter_tuple hL
      exact ⟨_, rfl, h⟩
section
variable {prog : Program} {w : World} {A : Around} {E : Value → Shared → Prop} {s : Shared}
theorem call_enumerate_tup {l : Addr} {items : Array Value} {Q : Value → Shared → Prop} (hL : s.heap.IsTuple l items)
    (h : ∀ h', IsEnum h' (s.heap.objs.size + 1) s.heap.objs.size 0 .none → h'.IsTupleIter s.heap.objs.size l 0 → h'.objs.size = s.heap.objs.size + 2 →
      (∀ b o, s.heap.get? b = some o → h'.get? b = some o) → Q (.ref (s.heap.objs.size + 1)) { s with heap := h' }) :
    wpAny (model prog w) A (call (.type "enumerate") [.ref l]) Q E s := by
  obtain ⟨⟨c, dct, dt, sl⟩, hl, hc, n, hd⟩ := hL
  replace hc : c = .type "tuple" := hc
  replace hd : dt = .seq items n := hd
  subst hc hd
  refine callType_new F.called_enumerate (by decide) (F.typeCall_enumerate_1 _) (F.newCall_enumerate_1 _) (fun obj => F.args_object_init_2 obj _) F.entry_enumerate_new
    (meets_enumerate_newTup l items n dct sl) ⟨hl, ?_⟩
  have hz : (s.heap.push { cls := .type "tuple_iterator", data := .fields #[.ref l, .int 0 0] }).objs.size = s.heap.objs.size + 1 := Heap.size_push ..
  show _ ∧ _
  rw [hz]
  have he : IsEnum ((s.heap.push { cls := .type "tuple_iterator", data := .fields #[.ref l, .int 0 0] }).push
      { cls := .type "enumerate", data := .fields #[.none, .bool false, .ref s.heap.objs.size, rawInt 0, .none, .none] }) (s.heap.objs.size + 1) s.heap.objs.size 0 .none := by
    have := Heap.get?_push_size (s.heap.push { cls := .type "tuple_iterator", data := .fields #[.ref l, .int 0 0] })
      (o := { cls := .type "enumerate", data := .fields #[.none, .bool false, .ref s.heap.objs.size, rawInt 0, .none, .none] }) rfl
    rw [hz] at this; exact this
  refine ⟨⟨_, he, rfl⟩, h _ he ⟨_, Heap.get?_push_of_some _ (Heap.get?_push_size _ rfl), rfl, rfl⟩ (by rw [Heap.size_push, hz]) fun b o x => Heap.get?_push_of_some _ (Heap.get?_push_of_some _ x)⟩
end
theorem enumT_end {prog : Program} {w : World} {A : Around} {E : Value → Shared → Prop} {s : Shared} {e it l : Addr} {i : Nat} {items : Array Value} {old : Value} {Q : Option Value → Shared → Prop} (hh : A.handled = none)
    (he : IsEnum s.heap e it i old) (hit : s.heap.IsTupleIter it l i) (hl : s.heap.IsTuple l items) (hx : items[i]? = none)
    (hQ : ∀ h', Heap.ExtBut it s.heap h' → Q none { s with heap := h' }) : wpAny (model prog w) A (pyNext (.ref e)) Q E s := by
  have hT : s.TypeIs (.ref e) "enumerate" := ⟨_, he, rfl⟩
  unfold pyNext
  refine wpAny_bind (wpAny_attempt (wpAny_callSpecial?_slot (name := Str.ofString "__next__") hT F.slot_enumerate_next
    (wpAny_call_entry F.slot_enumerate_next hT F.entry_enumerate_next ?_ (F.args_enumerate_next_1 _))))
  show wpAny _ _ (field (.ref e) 2 >>= _) _ _ _
  refine wpAny_bind (wpAny_field he rfl (x := .ref it) rfl ?_)
  refine wpAny_bind (wpAny_nextOf_tuple_end hh hit hl hx fun h' x he' hx' => ?_)
  obtain ⟨o, ho, hc⟩ := hx'
  refine wpAny_bind (wpAny_isInstance (T := "StopIteration") (b := true) ⟨o, ho, hc⟩ isSubtype_stop ?_)
  exact wpAny_pure (hQ _ he')
/-- the tuple at a as it stands at each turn, each item in a new pair -/
def IteT (K : PySem.W.Frag) (a : Addr) : It :=
  ⟨fun i H => ∃ (xs : List V) (x : V), SqT K H a xs ∧ xs[i]? = some x, fun i H v H' => ∃ T x, v = .ref T ∧ H T = none ∧ H' = upd H T (.tup [.int (i : Nat), x]) ∧ ∀ xs, SqT K H a xs → xs[i]? = some x, fun i H => ∃ xs : List V, SqT K H a xs ∧ xs.length ≤ i⟩
theorem turn_enumT {P : Program} {w : World} {K : PySem.W.Frag} {elts : List Expr} {kk : Nat} {tpos : Pos} (a e it : Addr) (hae : a ≠ it) (hae2 : a ≠ e) :
    Turn P w K (.Tuple elts kk tpos) (IteT K a) [e, it] e (fun i h => (∃ old, IsEnum h e it ((i : Nat) : Int) old) ∧ h.IsTupleIter it a i ∧ e ≠ it) where
  mem := by simp
  obj := fun i h st b hb => by
    obtain ⟨⟨old, he⟩, ⟨o, ho, hc, hd⟩, _⟩ := st
    have e' : b = e ∨ b = it := by simpa using hb
    rcases e' with z | z
    · rw [z]; exact ⟨_, he, fun v q => nomatch q⟩
    · rw [z]; exact ⟨o, ho, fun v q => by rw [hd] at q; cases q⟩
  keep := fun i h h' st k => let ⟨⟨old, he⟩, hi, hne⟩ := st; ⟨⟨old, k e (by simp) _ he⟩, hi.at fun o q => k it (by simp) o q, hne⟩
  item := by
    intro X hP hw hK hc i pins s σ H E I hf st hg
    subst hP hw hK
    obtain ⟨⟨old, he⟩, hit, hne⟩ := st
    obtain ⟨xs, x, hq, hx⟩ := hg
    obtain ⟨its, rv, p, hz⟩ := I.tuple hq
    obtain ⟨u, hu, ru⟩ := rv.get hx
    have hel : e < s.heap.objs.size := Heap.lt_size he
    have hil : it < s.heap.objs.size := by obtain ⟨_, q, _⟩ := hit; exact Heap.lt_size q
    have hlt : i < its.toArray.size := by
      have := (List.getElem?_eq_some_iff.mp hu).1
      simpa using this
    refine wpAny_pyNext_enum_itemD (Draws.tuple (A := X.A.in1) (show X.A.in1.handled = none from I.ok.hd hc) it a hae its.toArray) he ⟨hit, show s.heap.IsTuple a its.toArray from p⟩ hlt hne (by simp [hne, Ne.symm hae2]) fun y h' tk hy ho hit' hT hsz hk => ?_
    obtain rfl : y = u := by
      have e1 : its.toArray[i]? = some u := by simpa using hu
      have e2 : its.toArray[i]? = some y := hy
      rw [e1] at e2
      exact (Option.some.inj e2).symm
    refine ⟨_, rfl, wpAny_letOwnedTupleGo_enum (s := { s with heap := h', toks := tk + 1 }) ho fun h'' he' sb => ?_⟩
    have hT2 : h''.get? s.heap.objs.size = some { cls := .type "tuple", data := .seq #[.int i tk, y] } := (sb.2 _ (Nat.ne_of_gt hel)).trans hT
    have new : ObjOk X.prog X.w (upd H s.heap.objs.size (.tup [.int (i : Nat), x])) h'' s.heap.objs.size (.tup [.int (i : Nat), x]) :=
      ⟨by show 2 ≤ sizeLine; decide, [.int i tk, y], .cons ⟨_, rfl⟩ (.cons ru .nil), ⟨_, hT2, rfl, _, rfl⟩⟩
    have I1 : Inv X pins σ (upd H s.heap.objs.size (.tup [.int (i : Nat), x])) { s with heap := h'', toks := tk + 1 } :=
      I.turnedNew (ch := [e, it]) (fun b ob hb q => (sb.2 b (fun z => hb (by simp [z]))).trans (hk b ob (fun z => hb (by simp [z])) (fun z => hb (by simp [z])) q)) hf (Nat.le_refl _) new
    refine ⟨.ref s.heap.objs.size, _, I1, rfl, ⟨_, x, rfl, I.hok.fresh (Nat.le_refl _), rfl, fun ys hy => by rw [I.tuple_inj hy hq]; exact hx⟩, ⟨⟨y, ?_⟩, hit'.1.at fun o q => (sb.2 it (Ne.symm hne)).trans q, hne⟩, fun b hb => ?_⟩
    · have e1 : ((i + 1 : Nat) : Int) = (i : Int) + 1 := by omega
      rw [e1]; exact he'
    · have hb' : b < s.heap.objs.size := by
        have e' : b = e ∨ b = it := by simpa using hb
        rcases e' with z | z
        · rw [z]; exact hel
        · rw [z]; exact hil
      rw [upd_ne (Nat.ne_of_lt hb')]
      exact (hf b hb).1
  done := by
    intro X hP hw hK hc i pins s σ H E I hf st hg
    subst hP hw hK
    obtain ⟨⟨old, he⟩, hit, hne⟩ := st
    obtain ⟨xs, hq, hx⟩ := hg
    obtain ⟨its, rv, p, hz⟩ := I.tuple hq
    obtain ⟨f0, f1, f2, f3, f4, f5⟩ := hf it (by simp)
    have hl := rv.length
    exact enumT_end (I.ok.hd hc) he hit (show s.heap.IsTuple a its.toArray from p) (by simp; omega) fun h' eb => ⟨rfl, I.turned (t' := s.toks) (fun b o hb q => eb b o hb q) f0 f1 f3 f4 f5⟩
  self := fun A i s Q E st h => let ⟨⟨_, he⟩, _⟩ := st; wpAny_pyIter_enum he h
def iEnumT (K : PySem.W.Frag) (ta : TA) : TI := fun σ H R => ta σ H fun vs H1 => ∃ a xs, vs = [.ref a] ∧ SqT K H1 a xs ∧ R (IteT K a) H1
theorem pi_enumT {X : Cx} {e : Expr} {ta : TA} {p pos tpos : Pos} {elts : List Expr} {kk : Nat} (hg : Gl X "enumerate") (hm : X.mg "enumerate" = none) (ha : PA X [e] ta) (hs : starEach [e] X.env = [(false, eval e X.env)] := by rfl) :
    PI X (.Tuple elts kk tpos) (.Call (.Name "enumerate" p) [e] [] pos) (iEnumT X.K ta) := by
  refine ⟨fun pins s σ H R I h => ?_⟩
  refine Call_ (ld_blt I hg hm boot_enumerate (PyProof.Rows.callWith_type1 (thn (ha.run pos pins s σ H _ I h) fun us s1 ⟨vs, H1, I1, r1, q1⟩ => ?_) hs rfl))
  obtain ⟨a, xs, ex, hq, q⟩ := q1
  subst ex
  cases r1 with
  | cons r rr =>
    cases rr
    cases r
    obtain ⟨its, rv, p', hz⟩ := I1.tuple hq
    have hal : a < s1.heap.objs.size := by
      obtain ⟨o, ho, _⟩ := p'
      exact Heap.lt_size ho
    refine call_enumerate_tup (show s1.heap.IsTuple a its.toArray from p') fun h' he hit hsz hk => wpAny_pyIter_enum he ?_
    have I2 : Inv X pins σ H1 { s1 with heap := h' } := I1.kept (t' := s1.toks) hk
    refine ⟨s1.heap.objs.size + 1, [s1.heap.objs.size + 1, s1.heap.objs.size], _, _, H1, rfl, I2, turn_enumT a (s1.heap.objs.size + 1) s1.heap.objs.size (Nat.ne_of_lt hal) (Nat.ne_of_lt (Nat.lt_succ_of_lt hal)), ⟨⟨.none, he⟩, hit, Nat.succ_ne_self _⟩, fun b hb => ?_, q⟩
    have e' : b = s1.heap.objs.size + 1 ∨ b = s1.heap.objs.size := by simpa using hb
    have hle : s1.heap.objs.size ≤ b := by
      rcases e' with z | z
      · rw [z]; exact Nat.le_add_right _ _
      · rw [z]; exact Nat.le_refl _
    exact I1.fpOk hle (I1.hok.fresh hle)
theorem walk_enumT {K : PySem.W.Frag} {a : Addr} {xs : List V} : Walk (IteT K a) xs.length (fun H => SqT K H a xs) (YPair (fun i => some (.int (i : Nat))) (fun i => xs[i]?)) := by
  refine ⟨fun i _ hi q => ⟨xs, xs[i], q, by simp [hi]⟩, fun _ q => ⟨xs, q, Nat.le_refl _⟩, fun i H v H' _ q y => ?_⟩
  obtain ⟨T, x, h1, h2, h3, h4⟩ := y
  exact ⟨T, .int (i : Nat), x, h1, h2, h3, rfl, h4 xs q⟩
end FC
set_option Elab.async false
set_option linter.all false
set_option maxRecDepth 100000
set_option maxHeartbeats 4000000
/-! moves_by_group. -/
namespace FC
open PySem PySem.Spec PyProof.Rows L2
/-- lists at bs, one for each -/
structure MB (K : PySem.W.Frag) (bs : List Addr) (G : Hp) (acc : List (List (Int × Int))) : Prop where
  len : acc.length = bs.length
  at_ : ∀ (j : Nat) (b : Addr) (l : List (Int × Int)), bs[j]? = some b → acc[j]? = some l → ∃ us, G b = some (.lst us) ∧ Ls (RP K) G us l
theorem MB.same {K : PySem.W.Frag} {bs : List Addr} {G G' : Hp} {acc : List (List (Int × Int))} (s : Same G G') (h : MB K bs G acc) : MB K bs G' acc := ⟨h.len, fun j b l e1 e2 => by
  obtain ⟨us, h1, h2⟩ := h.at_ j b l e1 e2
  exact ⟨us, s _ _ h1, h2.wk fst_RP (Wk.of s)⟩⟩
theorem MB.app {K : PySem.W.Frag} {bs : List Addr} {G : Hp} {acc : List (List (Int × Int))} (nd : bs.Nodup) (h : MB K bs G acc) {k : Nat} {b : Addr} {l : List (Int × Int)} {us : List V} {v : V} {p : Int × Int} (hb : bs[k]? = some b) (hl : acc[k]? = some l) (hu : G b = some (.lst us)) (hus : Ls (RP K) G us l) (hv : RP K G v p) :
    MB K bs (upd G b (.lst (us ++ [v]))) (acc.set k (l ++ [p])) := by
  have f : Fch G (upd G b (.lst (us ++ [v]))) := fch_upd (Fch.refl _) hu True.intro
  refine ⟨by rw [List.length_set]; exact h.len, fun j c m e1 e2 => ?_⟩
  by_cases hj : k = j
  · subst hj
    rw [hb] at e1
    obtain rfl := Option.some.inj e1
    rw [List.getElem?_set_self', hl] at e2
    obtain rfl : l ++ [p] = m := Option.some.inj e2
    exact ⟨_, upd_same, (hus.snoc hv).fch fst_RP f⟩
  · rw [List.getElem?_set_ne hj] at e2
    obtain ⟨ws, h1, h2⟩ := h.at_ j c m e1 e2
    refine ⟨ws, ?_, h2.fch fst_RP f⟩
    rw [upd_ne (fun z => hj (nodup_get nd hb (by rw [← z]; exact e1)))]
    exact h1
def spMovesBy (K : PySem.W.Frag) (GCl : Addr) : Sp := fun vs H Q _ => ∃ (ga : Addr) (G : Grp) (r : List (List (Int × Int))), vs = [.ref ga] ∧ GrpAt K GCl H ga G ∧ movesBy G = some r ∧ ∀ (t : Addr) H', Same H H' → FL (RL (RP K)) H' t r → Q (.ref t) H'
section
variable {P : Program} {w : World} {K : PySem.W.Frag} {mg : Str → Option Value} {base : Heap} {GCl : Addr}
abbrev NMb : List Str := ["groups", "found", "group", "line", "number", "_", "behind"]
theorem scMovesBy : FnScope NMb ["groups"] (defScope sMovesBy) := ⟨rfl, rfl, rfl, by decide +kernel, rfl, by decide +kernel, by decide +kernel⟩
theorem ok_movesBy {f : Addr} {fd : FuncData} (F : Fun K "moves_by_group" "moves_by_group" sMovesBy f fd) (TG : GrT K GCl) (B : Blt mg) (mE : mg "enumerate" = none) : FnOk P w K mg base CX0 1 f fd ["groups"] (spMovesBy K GCl) := by
  refine F.ok scMovesBy (fun vs H Q E h => ?_) (fun cdv A outer s H vs Q E hr h => ?_)
  · obtain ⟨ga, G, r, rfl, _⟩ := h
    rfl
  · obtain ⟨ga, G, r, rfl, hG, hm, q⟩ := h
    have nd := scMovesBy.nd
    refine ⟨_, pss_cons (ps_setLc (i := 1) (own := [("_", 5)]) (g := gName 5) (tt := tYes) (te := tLst tNil) (by rfl) nd rfl rfl (sw_true rfl rfl rfl (by decide +kernel)) (pi_list (pe_fld (pv 0) rfl)) (blkOk_by (own := [("_", 5)]) (N := NMb) (sc := defScope sMovesBy) (by decide +kernel)) (fun _ _ _ _ _ => pg_name (i := 5) nd rfl (Or.inl rfl))
            (fun _ _ _ _ _ => pts_nil) (fun _ _ _ _ _ => pe_lst pa_nil))
      (pss_cons (ps_fz (ps_for PassesOwn.never rfl (pi_enum (by rfl) mE (pa_cons (pe_fld (pv 0) rfl) pa_nil)) (pg_tup rfl (pgs_cons (pg_name (i := 2) nd rfl (Or.inl rfl)) (pgs_cons (pg_name (i := 3) nd rfl (Or.inl rfl)) pgs_nil)))
        (pss_one (ps_for PassesOwn.never rfl (pi_enumT (by rfl) mE (pa_cons (pv 3) pa_nil)) (pg_tup rfl (pgs_cons (pg_name (i := 4) nd rfl (Or.inl rfl)) (pgs_cons (pg_tup rfl (pgs_cons (pg_name (i := 5) nd rfl (Or.inl rfl)) (pgs_cons (pg_name (i := 6) nd rfl (Or.inl rfl)) pgs_nil))) pgs_nil)))
          (pss_cons (ps_expr (pe_bm PySem.F.plainAttrs_list PySem.F.slot_list_append PySem.F.type_list_append mt_append (pe_ix (r := rIxL K) ix_list (pv 1) (pv 6) (fun _ _ => rfl)) (pa_cons (pe_tup (pa_cons (pv 2) (pa_cons (pv 4) pa_nil))) pa_nil)))
          (pss_one (ps_expr (pe_bm PySem.F.plainAttrs_list PySem.F.slot_list_append PySem.F.type_list_append mt_append (pe_ix (r := rIxL K) ix_list (pv 1) (pv 6) (fun _ _ => rfl)) (pa_cons (pe_tup (pa_cons (pv 2) (pa_cons (pe_op op_add (pv 4) (pe_callB call_len (by rfl) B.len PySem.boot_len (pa_cons (pv 3) pa_nil))) pa_nil))) pa_nil)))))))))
      (pss_one (ps_ret (pv 1)))), ?_⟩
    unfold movesBy at hm
    obtain ⟨_, hg, hm⟩ := bnd_some.mp hm
    have hg := of_decide_eq_true (grd_some.mp hg)
    obtain ⟨dxg, fa, oa, ca, aa, g1, g2, g3, g4, g5⟩ := hG
    obtain ⟨cvs, co, c1, c2⟩ := g4
    have hcl := c2.len
    have hsz : 200000 < sizeLine := by rw [sizeLine_eq]; omega
    refine ⟨_, rfl, ga, GCl, dxg, _, _, rfl, g1, TG.cl, TG.nc, rfl, ca, rfl, ⟨_, .inl (.inr ⟨co, c1⟩)⟩, fun fb nfb => ?_⟩
    refine lc_new (U := UE) (walk_list (K := K) (a := ca) (xs := cvs)) (fun _ _ _ _ s h => s _ _ h) (fun d _ _ _ _ o n h => o.off _ _ n.symm h) (fun _ _ _ h => ⟨_, h⟩) (G.counts.map fun _ => ([] : List V)) (by rw [List.length_map]; omega) (by omega) nfb (fun H2 s2 => .inl (.inr ⟨co, s2 _ _ c1⟩)) ?_ ?_
    · rintro i x y H2 H3 Nx hy s2 ⟨rfl, hx⟩ fin
      rw [List.getElem?_map] at hy
      obtain ⟨c, hc, rfl⟩ := Option.map_eq_some_iff.mp hy
      exact ⟨rfl, (by show 0 ≤ sizeLine; omega), fun b hb => fin b _ (same_upd (Same.refl _) hb) hb upd_same⟩
    intro H1 bs s1 hbs hN hDb
    have hbl := hN.len
    rw [List.length_map] at hbl
    have hMB0 : MB K bs H1 (G.counts.map fun _ => []) := ⟨by rw [List.length_map]; omega, fun j b l e1 e2 => by
      rw [List.getElem?_map] at e2
      obtain ⟨c, hc, rfl⟩ := Option.map_eq_some_iff.mp e2
      exact ⟨[], hN.at_ j b [] e1 (by rw [List.getElem?_map, hc]; rfl), .nil⟩⟩
    have keep : ∀ {G' : Hp}, OffL bs H1 G' → Same H G' := fun o b ob h => o b ob (fun z => by rw [hN.new b z] at h; cases h) (s1 _ _ h)
    refine ⟨_, rfl, ga, GCl, dxg, _, _, rfl, s1 _ _ g1, TG.cl, TG.nc, rfl, ca, _, rfl, .inl (.inr ⟨co, s1 _ _ c1⟩), ?_⟩
    refine for_it (walk_enum (K := K) (a := ca) (xs := cvs)) (fun i σ G' => ∃ (acc : List (List (Int × Int))) (y2 y3 y4 y5 y6 : Option V), (G.counts.zipIdx.take i).foldlM mbL (G.counts.map fun _ => []) = some acc ∧ σ = [some (.ref ga), some (.ref fb), y2, y3, y4, y5, y6] ∧ OffL bs H1 G' ∧ MB K bs G' acc)
      ⟨_, none, none, none, none, none, rfl, rfl, OffL.refl _ _, hMB0⟩ (fun i σ G' _ ⟨_, _, _, _, _, _, _, _, o, _⟩ => .inl (.inr ⟨co, keep o _ _ c1⟩)) ?_ ?_
    · rintro i x σ G1 G2 hi ⟨acc, y2, y3, y4, y5, y6, hf, rfl, oG, hMB⟩ ⟨Tt, x1, x2, rfl, hT, rfl, e1', e2'⟩
      obtain rfl := Option.some.inj e1'
      have e2' : cvs[i]? = some x2 := e2'
      obtain ⟨l, hl⟩ : ∃ l, G.counts[i]? = some l := ⟨G.counts[i]'(by omega), List.getElem?_eq_getElem (by omega)⟩
      obtain ⟨lb, rfl, ws, b1, b2⟩ := c2.at_ i x2 l e2' hl
      have hwl := b2.len
      have hz : G.counts.zipIdx[i]? = some (l, i) := by
        rw [List.getElem?_zipIdx, hl, Nat.zero_add]
        rfl
      obtain ⟨acc1, h1, h2⟩ := foldM_step hm hz hf
      unfold mbL at h1
      obtain ⟨_, hg0, h1⟩ := bnd_some.mp h1
      have hg0 : l.length ≤ 2000 := of_decide_eq_true (grd_some.mp hg0)
      have h1 : l.zipIdx.foldlM (mbE i l.length) acc = some acc1 := h1
      have s2 := same_upd (o := .tup [V.int (i : Nat), .ref lb]) (Same.refl G1) hT
      have oG2 := OffL.trans oG (OffL.same s2)
      have hMB2 := hMB.same s2
      refine ⟨Tt, [.int (i : Nat), .ref lb], rfl, sqt_new, rfl, _, _, rfl, _, _, rfl, rfl, ?_⟩
      generalize upd G1 Tt (.tup [V.int (i : Nat), .ref lb]) = G2 at s2 oG2 hMB2 ⊢
      have hlb : ∀ {G' : Hp}, OffL bs H1 G' → SqT K G' lb ws := fun o => sqt_same (keep o) b1
      refine ⟨_, rfl, lb, _, rfl, hlb oG2, ?_⟩
      refine for_it (walk_enumT (K := K) (a := lb) (xs := ws)) (fun j σ G' => ∃ (acc2 : List (List (Int × Int))) (y4 y5 y6 : Option V), (l.zipIdx.take j).foldlM (mbE i l.length) acc = some acc2 ∧ σ = [some (.ref ga), some (.ref fb), some (.int (i : Nat)), some (.ref lb), y4, y5, y6] ∧ OffL bs H1 G' ∧ MB K bs G' acc2)
        ⟨acc, y4, y5, y6, rfl, rfl, oG2, hMB2⟩ (fun j σ G' _ ⟨_, _, _, _, _, _, o, _⟩ => hlb o) ?_ ?_
      · clear hMB2 oG2 s2 hT hf hMB oG
        rintro j x σ G3 G4 hj ⟨acc2, y4, y5, y6, hf, rfl, oG, hMB⟩ ⟨Tt, x1, x2, rfl, hT, rfl, e1', e2''⟩
        obtain rfl := Option.some.inj e1'
        have e2'' : ws[j]? = some x2 := e2''
        obtain ⟨e, he⟩ : ∃ e, l[j]? = some e := ⟨l[j]'(by omega), List.getElem?_eq_getElem (by omega)⟩
        obtain ⟨et, rfl, het⟩ := b2.at_ j x2 e e2'' he
        have hz : l.zipIdx[j]? = some (e, j) := by
          rw [List.getElem?_zipIdx, he, Nat.zero_add]
          rfl
        obtain ⟨acc3, h3, h4⟩ := foldM_step h1 hz hf
        unfold mbE at h3
        obtain ⟨m, hm1, h3⟩ := bnd_some.mp h3
        obtain ⟨_, hg1, h3⟩ := bnd_some.mp h3
        have h3 := Option.some.inj h3
        have hg1 := of_decide_eq_true (grd_some.mp hg1)
        obtain ⟨hb0, hm1⟩ := at_some hm1
        have hm1 : acc2[e.2.toNat]? = some m := hm1
        have hb0 : 0 ≤ e.2 := hb0
        have s4 := same_upd (o := .tup [V.int (j : Nat), .ref et]) (Same.refl G3) hT
        have oG4 := OffL.trans oG (OffL.same s4)
        have hMB4 := hMB.same s4
        refine ⟨Tt, [.int (j : Nat), .ref et], rfl, sqt_new, rfl, _, _, rfl, _, _, rfl, et, _, rfl, sqt_same (keep oG4) het, rfl, _, _, rfl, _, _, rfl, rfl, rfl, ?_⟩
        generalize upd G3 Tt (.tup [V.int (j : Nat), .ref et]) = G4 at s4 oG4 hMB4 ⊢
        have hal := hMB4.len
        have lt := get_lt hm1
        obtain ⟨b, hb⟩ : ∃ b, bs[e.2.toNat]? = some b := ⟨bs[e.2.toNat]'(by omega), List.getElem?_eq_getElem (by omega)⟩
        have hbm := List.mem_of_getElem? hb
        obtain ⟨us, hu, hus⟩ := hMB4.at_ _ b m hb hm1
        have hul := hus.len
        have hfb : ∀ {G' : Hp}, OffL bs H1 G' → SqL K G' fb (bs.map V.ref) := fun o => SqL.of (o _ _ hDb hbs)
        have hix : atI (bs.map V.ref) e.2 = some (.ref b) := atI_of hb0 (by rw [List.getElem?_map, hb]; rfl)
        refine ⟨_, rfl, _, rfl, fb, _, e.2, .ref b, rfl, rfl, hfb oG4, hix, .inl ⟨rfl, _, SqL.of hu⟩, _, rfl, _, rfl, (by show 2 ≤ sizeLine; decide), fun t1 nt1 => ?_⟩
        have s5 := same_upd (o := .tup [V.int (i : Nat), .int (j : Nat)]) (Same.refl G4) nt1
        have r5 : RP K (upd G4 t1 (.tup [V.int (i : Nat), .int (j : Nat)])) (.ref t1) ((i : Int), (j : Int)) := ⟨t1, rfl, sqt_new⟩
        have oG5 := OffL.trans oG4 (OffL.same s5)
        have hMB5 := hMB4.same s5
        have hu5 := s5 _ _ hu
        have hus5 := hus.wk fst_RP (Wk.of s5)
        generalize upd G4 t1 (.tup [V.int (i : Nat), .int (j : Nat)]) = G5 at s5 r5 oG5 hMB5 hu5 hus5 ⊢
        refine ⟨b, _, _, rfl, rfl, hu5, by omega, ?_⟩
        have hMB6 := hMB5.app hN.nd hb hm1 hu5 hus5 r5
        have oG6 : OffL bs H1 (upd G5 b (.lst (us ++ [.ref t1]))) := fun z o hz h => by
          rw [upd_ne (fun e => hz (by rw [e]; exact hbm))]
          exact oG5 z o hz h
        have hu6 : upd G5 b (.lst (us ++ [.ref t1])) b = some (.lst (us ++ [.ref t1])) := upd_same
        have hus6 : Ls (RP K) (upd G5 b (.lst (us ++ [.ref t1]))) (us ++ [.ref t1]) (m ++ [((i : Int), (j : Int))]) := (hus5.snoc r5).fch fst_RP (fch_upd (Fch.refl _) hu5 True.intro)
        generalize upd G5 b (.lst (us ++ [.ref t1])) = G6 at hMB6 oG6 hu6 hus6 ⊢
        refine ⟨_, rfl, _, rfl, fb, _, e.2, .ref b, rfl, rfl, hfb oG6, hix, .inl ⟨rfl, _, SqL.of hu6⟩, _, rfl, _, rfl, _, rfl, _, _, rfl, .inr ⟨_, hlb oG6, rfl⟩, _, _, rfl, rfl, (by show 2 ≤ sizeLine; decide), fun t2 nt2 => ?_⟩
        have s7 := same_upd (o := .tup [V.int (i : Nat), .int ((j : Int) + (ws.length : Nat))]) (Same.refl G6) nt2
        have r7 : RP K (upd G6 t2 (.tup [V.int (i : Nat), .int ((j : Int) + (ws.length : Nat))])) (.ref t2) ((i : Int), (j : Int) + (l.length : Int)) := ⟨t2, rfl, by rw [← hwl]; exact sqt_new⟩
        have oG7 := OffL.trans oG6 (OffL.same s7)
        have hMB7 := hMB6.same s7
        have hu7 := s7 _ _ hu6
        have hus7 := hus6.wk fst_RP (Wk.of s7)
        generalize upd G6 t2 (.tup [V.int (i : Nat), .int ((j : Int) + (ws.length : Nat))]) = G7 at s7 r7 oG7 hMB7 hu7 hus7 ⊢
        refine ⟨b, _, _, rfl, rfl, hu7, by rw [List.length_append]; show us.length + 1 + 1 ≤ sizeLine; omega, ?_⟩
        have hm7 : (acc2.set e.2.toNat (m ++ [((i : Int), (j : Int))]))[e.2.toNat]? = some (m ++ [((i : Int), (j : Int))]) := by rw [List.getElem?_set_self', hm1]; rfl
        have hMB8 := hMB7.app hN.nd hb hm7 hu7 hus7 r7
        rw [List.set_set] at hMB8
        refine ⟨acc3, _, _, _, h4, rfl, fun z o hz h => ?_, ?_⟩
        · rw [upd_ne (fun e => hz (by rw [e]; exact hbm))]
          exact oG7 z o hz h
        · rw [← h3]
          have ea : (m ++ [((i : Int), (j : Int))]) ++ [((i : Int), (j : Int) + (l.length : Int))] = m ++ [((i : Int), (j : Int)), ((i : Int), (j : Int) + (l.length : Int))] := by rw [List.append_assoc]; rfl
          rw [ea] at hMB8
          exact hMB8
      · rintro σ G3 ⟨acc2, y4, y5, y6, hf, rfl, oG3, hMB3⟩
        have eT : l.zipIdx.take ws.length = l.zipIdx := List.take_of_length_le (by rw [List.length_zipIdx]; omega)
        rw [eT, h1] at hf
        obtain rfl := Option.some.inj hf
        exact ⟨acc1, _, _, _, _, _, h2, rfl, oG3, hMB3⟩
    · rintro σ G1 ⟨acc, y2, y3, y4, y5, y6, hf, rfl, oG, hMB⟩
      have eT : G.counts.zipIdx.take cvs.length = G.counts.zipIdx := List.take_of_length_le (by rw [List.length_zipIdx]; omega)
      rw [eT] at hf
      have hm' : G.counts.zipIdx.foldlM mbL (G.counts.map fun _ => []) = some r := hm
      rw [hm'] at hf
      obtain rfl := Option.some.inj hf
      have hal := hMB.len
      have gl : ∀ b ∈ bs, ∃ xs, G1 b = some (.lst xs) := fun b hb => by
        obtain ⟨j, hj⟩ := List.getElem?_of_mem hb
        have lt := get_lt hj
        obtain ⟨us, hu, _⟩ := hMB.at_ j b _ hj (List.getElem?_eq_getElem (by omega))
        exact ⟨us, hu⟩
      have gf1 := oG _ _ hDb hbs
      refine fz_all (fb :: bs) G1 (List.nodup_cons.mpr ⟨hDb, hN.nd⟩) (fun b hb => ?_) fun H' k1 k2 => ?_
      · rcases List.mem_cons.mp hb with rfl | hb
        · exact ⟨_, gf1⟩
        · exact gl b hb
      · have wk : Wk G1 H' := fun z o h fz => by
          rw [k1 z (fun e => ?_)]
          · exact h
          · rcases List.mem_cons.mp e with rfl | e
            · rw [gf1] at h; rw [← Option.some.inj h] at fz; exact fz
            · obtain ⟨xs, hx⟩ := gl z e
              rw [hx] at h; rw [← Option.some.inj h] at fz; exact fz
        refine ⟨_, rfl, q fb H' (fun b o h => ?_) ?_⟩
        · rw [k1 b (fun e => ?_)]
          · exact keep oG _ _ h
          · rcases List.mem_cons.mp e with rfl | e
            · rw [nfb] at h; cases h
            · rw [hN.new b e] at h; cases h
        · obtain ⟨of, hf'⟩ := k2 fb List.mem_cons_self _ gf1
          refine ⟨bs.map V.ref, of, hf', by rw [List.length_map]; exact hal.symm, fun j v l e1 e2 => ?_⟩
          rw [List.getElem?_map] at e1
          obtain ⟨b, hb, rfl⟩ := Option.map_eq_some_iff.mp e1
          obtain ⟨us, hu, hus⟩ := hMB.at_ j b l hb e2
          obtain ⟨o5, h5⟩ := k2 b (List.mem_cons_of_mem _ (List.mem_of_getElem? hb)) _ hu
          exact ⟨b, rfl, us, o5, h5, hus.wk fst_RP wk⟩
end
end FC
set_option Elab.async false
set_option linter.all false
set_option maxRecDepth 100000
set_option maxHeartbeats 4000000
/-! spend_tests. -/
namespace FC
open PySem PySem.Spec PyProof.Rows L2
theorem fch_offl {L : List Addr} {H H' : Hp} (c : ∀ d ∈ L, ∃ o, H d = some o ∧ Ck o) (o : OffL L H H') : Fch H H' := fun a ob h n => o a ob (fun z => by
  obtain ⟨u, hu, ck⟩ := c a z
  rw [hu] at h
  exact n (by rw [← Option.some.inj h]; exact ck)) h
section
variable {P : Program} {w : World} {K : PySem.W.Frag} {SC MCl : Addr} {H H' : Hp} {a : Addr} {X : MC} {ps : List Stp} {M : Mac}
theorem mac_keep (h : MacAt P w K SC MCl H a X ps M) (f : Fch H H') (k : ∀ z ∈ X.cells, ∀ o, H z = some o → H' z = some o) : MacAt P w K SC MCl H' a X ps M := by
  obtain ⟨⟨dx, h1⟩, h2, h3, ⟨om, h4⟩, h5, ⟨xs, h6, h7, h8⟩, ⟨h9, h10, h11⟩, ⟨h12, h13, h14⟩, ⟨h15, h16, h17⟩, ⟨h18, h19, h20⟩, h21, h22⟩ := h
  refine ⟨⟨dx, f _ _ h1 id⟩, stps_wk f.wk h2, h3, ⟨om, f _ _ h4 id⟩, h5, ⟨xs, ⟨k _ (cells_mem.mpr (.inl rfl)) _ h6.1, fun x hx => nkey_wk f.wk (h6.2 x hx)⟩, h7, h8⟩,
    ⟨k _ (cells_mem.mpr (.inr (.inl rfl))) _ h9, h10, fun i p S e1 e2 => ?_⟩,
    ⟨k _ (cells_mem.mpr (.inr (.inr (.inl rfl)))) _ h12, h13, fun i b st e1 e2 => st_wk f.wk (h14 i b st e1 e2)⟩,
    ⟨k _ (cells_mem.mpr (.inr (.inr (.inr (.inl rfl))))) _ h15, h16, fun i b l e1 e2 => k _ (cells_mem.mpr (.inr (.inr (.inr (.inr (.inr (.inr (List.mem_of_getElem? e1)))))))) _ (h17 i b l e1 e2)⟩,
    ⟨k _ (cells_mem.mpr (.inr (.inr (.inr (.inr (.inl rfl)))))) _ h18, h19, fun i b l e1 e2 => ?_⟩, h21, h22⟩
  · obtain ⟨⟨dx, y1⟩, ⟨L, y2, y3, y4⟩, y5⟩ := h11 i p S e1 e2
    exact ⟨⟨dx, f _ _ y1 id⟩, ⟨L, k _ (cells_mem.mpr (.inr (.inr (.inr (.inr (.inr (.inl (List.mem_map.mpr ⟨p, List.mem_of_getElem? e1, rfl⟩))))))) ) _ y2, y3, fun x hx => vecf_wk f.wk (y4 x hx)⟩, y5⟩
  · obtain ⟨xs, ⟨o, y1⟩, y2, y3⟩ := h20 i b l e1 e2
    refine ⟨xs, ⟨o, f _ _ y1 id⟩, y2, fun i x e hx he => ?_⟩
    obtain ⟨b, e1, g, bl, m1, m2, m3⟩ := y3 i x e hx he
    exact ⟨b, e1, g, bl, sqt_wk f.wk m1, sqt_wk f.wk m2, bld_wk f.wk m3⟩
end
theorem TiesAt.ck {H : Hp} {ta : Addr} {ds : List Addr} {ties : List Tie} (h : TiesAt H ta ds ties) : ∀ d ∈ ds, ∃ o, H d = some o ∧ Ck o := fun d hd => by
  obtain ⟨i, hi⟩ := List.getElem?_of_mem hd
  have lt := get_lt hi
  have hl := h.len
  obtain ⟨L, h1, _⟩ := h.at_ i d _ hi (List.getElem?_eq_getElem (by omega))
  exact ⟨_, h1, True.intro⟩
/-- the ties stand when a list elsewhere changes -/
theorem TiesAt.och {H H' : Hp} {ta e : Addr} {ds : List Addr} {ties : List Tie} (o : Och e H H') (n : e ∉ ds) (h : TiesAt H ta ds ties) : TiesAt H' ta ds ties := by
  obtain ⟨⟨u, h1⟩, h2, h3, h4⟩ := h
  exact ⟨⟨u, o.at_ h1 id⟩, h2, h3, fun i d tied e1 e2 => (h4 i d tied e1 e2).och o (fun z => n (by rw [← z]; exact List.mem_of_getElem? e1))⟩
theorem sfS_some {q q' : List Tie × List Tst} {t : Tst} (h : sfS q t = some q') : ∃ b ties', refutes t q.1 = some (b, ties') ∧ q.2.length < 100000 ∧ q' = (ties', if b then q.2 ++ [t] else q.2) := by
  unfold sfS at h
  obtain ⟨r, h1, h⟩ := bnd_some.mp h
  obtain ⟨_, h2, h⟩ := bnd_some.mp h
  exact ⟨r.1, r.2, h1, of_decide_eq_true (grd_some.mp h2), (Option.some.inj h).symm⟩
def spSpend (P : Program) (w : World) (K : PySem.W.Frag) (SC MCl GCl : Addr) : Sp := fun vs H Q _ => ∃ (ma ga ta : Addr) (X : MC) (ps : List Stp) (M : Mac) (G : Grp) (ds : List Addr) (fuel : Nat) (ties ties' : List Tie), vs = [.ref ma, .ref ga, .ref ta] ∧ MacAt P w K SC MCl H ma X ps M ∧ GrpAt K GCl H ga G ∧ TiesAt H ta ds ties ∧ (∀ d ∈ ds, d ∉ X.cells) ∧ spendTests fuel M G (moduliOf ps).2 ties = some ties' ∧ G.anchors.length < 100000 ∧
  ∀ H', TiesAt H' ta ds ties' → OffL ds H H' → Q .non H'
section
variable {P : Program} {w : World} {K : PySem.W.Frag} {mg : Str → Option Value} {base : Heap} {SC MCl GCl : Addr}
abbrev NSpd : List Str := ["machine", "groups", "ties", "spent", "test", "moves_to", "at", "group", "numbers", "ahead", "number"]
theorem scSpend : FnScope NSpd ["machine", "groups", "ties"] (defScope sSpendTests) := ⟨rfl, rfl, rfl, by decide +kernel, rfl, by decide +kernel, by decide +kernel⟩
theorem ok_spend {f : Addr} {fd : FuncData} (F : Fun K "spend_tests" "spend_tests" sSpendTests f fd) (B : Blt mg) (CF : Cal P w K mg base CX0 1 "first_tests" ["machine", "groups"] (spFirstTests P w K SC MCl GCl)) (CR : Cal P w K mg base CX0 3 "refutes" ["test", "ties"] (spRefutes K)) (CM : Cal P w K mg base CX0 1 "moves_by_group" ["groups"] (spMovesBy K GCl))
    (CT : Cal P w K mg base CX0 1 "test_ahead" ["machine", "groups", "group", "number", "numbers"] (spTestAhead P w K SC MCl GCl)) : FnOk P w K mg base CX0 4 f fd ["machine", "groups", "ties"] (spSpend P w K SC MCl GCl) := by
  refine F.ok scSpend (fun vs H Q E h => ?_) (fun cdv A outer s H vs Q E hr h => ?_)
  · obtain ⟨ma, ga, ta, X, ps, M, G, ds, fuel, ties, ties', rfl, _⟩ := h
    rfl
  · obtain ⟨ma, ga, ta, X, ps, M, G, ds, fuel, ties, ties', rfl, hM, hG, hT, hdc, hm, hgl, q⟩ := h
    have nd := scSpend.nd
    have hr1 : Room 1 _ := hr.mono (by decide)
    refine ⟨_, pss_cons (ps_set (i := 3) nd rfl (Or.inl rfl) (pe_lst pa_nil))
      (pss_cons (ps_for PassesOwn.never rfl (pi_list (pe_cal CF hr1 pass0 (pa_cons (pv 0) (pa_cons (pv 1) pa_nil)))) (pg_name (i := 4) nd rfl (Or.inl rfl))
        (pss_one (ps_if (pt_val (pe_cal CR hr pass0 (pa_cons (pv 4) (pa_cons (pv 2) pa_nil)))) (pss_one (ps_expr (pe_bm PySem.F.plainAttrs_list PySem.F.slot_list_append PySem.F.type_list_append mt_append (pv 3) (pa_cons (pv 4) pa_nil)))) pss_nil)))
      (pss_cons (ps_set (i := 5) nd rfl (Or.inl rfl) (pe_cal CM hr1 pass0 (pa_cons (pv 1) pa_nil)))
      (pss_cons (ps_set (i := 6) nd rfl (Or.inl rfl) pe_int)
      (pss_one (ps_while PassesOwn.never (pt_cmp (pc_lt (pv 6) (pe_callB call_len (by rfl) B.len PySem.boot_len (pa_cons (pv 3) pa_nil))))
        (pss_cons (ps_asg (pe_ix (r := rIxL K) ix_list (pv 3) (pv 6) (fun _ _ => rfl)) (pg_tup rfl (pgs_cons (pg_name (i := 7) nd rfl (Or.inl rfl)) (pgs_cons (pg_name (i := 8) nd rfl (Or.inl rfl)) pgs_nil))))
        (pss_cons (ps_for PassesOwn.never rfl (pi_list (pe_ix (r := rIxL K) ix_list (pv 5) (pv 7) (fun _ _ => rfl))) (pg_tup rfl (pgs_cons (pg_name (i := 9) nd rfl (Or.inl rfl)) (pgs_cons (pg_name (i := 10) nd rfl (Or.inl rfl)) pgs_nil)))
          (pss_one (ps_if (pt_truth (pe_ix (r := rIxL K) ix_list (pv 2) (pv 9) (fun _ _ => rfl)) (fun _ => rfl))
            (pss_cons (ps_set (i := 4) nd rfl (Or.inl rfl) (pe_cal CT hr1 pass0 (pa_cons (pv 0) (pa_cons (pv 1) (pa_cons (pv 9) (pa_cons (pv 10) (pa_cons (pv 8) pa_nil)))))))
            (pss_one (ps_if (pt_val (pe_cal CR hr pass0 (pa_cons (pv 4) (pa_cons (pv 2) pa_nil)))) (pss_one (ps_expr (pe_bm PySem.F.plainAttrs_list PySem.F.slot_list_append PySem.F.type_list_append mt_append (pv 3) (pa_cons (pv 4) pa_nil)))) pss_nil))) pss_nil)))
        (pss_one (ps_aug (i := 6) nd rfl (Or.inl rfl) pe_int ip_add))))))))), ?_⟩
    unfold spendTests at hm
    obtain ⟨ft, hft, hm⟩ := bnd_some.mp hm
    obtain ⟨q0, hq0, hm⟩ := bnd_some.mp hm
    obtain ⟨mb, hmb, hm⟩ := bnd_some.mp hm
    have hsz : 200000 < sizeLine := by rw [sizeLine_eq]; omega
    refine ⟨(by show 0 ≤ sizeLine; omega), fun sp nsp => ?_⟩
    have s1 := same_upd (o := .lst []) (Same.refl H) nsp
    have e1 : upd H sp (.lst []) sp = some (.lst []) := upd_same
    generalize upd H sp (.lst []) = H1 at s1 e1 ⊢
    refine ⟨_, rfl, _, rfl, ma, ga, X, ps, M, G, ft, rfl, hM.same s1, hG.fch (Fch.of s1), hft, hgl, fun fl H2 s2 hfl => ?_⟩
    have s12 := Same.trans s1 s2
    have hM2 := hM.same s12
    have hG2 := hG.fch (Fch.of s12)
    have hT2 := hT.same s12
    have e2 := s2 _ _ e1
    have spd : sp ∉ ds := fun z => by
      obtain ⟨o, ho, _⟩ := hT.ck sp z
      rw [nsp] at ho
      cases ho
    have spc : sp ∉ X.cells := fun z => by
      obtain ⟨o, ho, _⟩ := mac_ck hM sp z
      rw [nsp] at ho
      cases ho
    have hck : ∀ d ∈ sp :: ds, ∃ o, H2 d = some o ∧ Ck o := fun d hd => by
      rcases List.mem_cons.mp hd with rfl | hd
      · exact ⟨_, e2, True.intro⟩
      · exact hT2.ck d hd
    have facts : ∀ {G' : Hp}, OffL (sp :: ds) H2 G' → Fch H2 G' ∧ MacAt P w K SC MCl G' ma X ps M := fun o => by
      have f := fch_offl hck o
      refine ⟨f, mac_keep hM2 f fun z hz u hu => o z u (fun e => ?_) hu⟩
      rcases List.mem_cons.mp e with rfl | e
      · exact spc hz
      · exact hdc z e hz
    have fin : ∀ {G' : Hp}, OffL (sp :: ds) H2 G' → OffL ds H G' := fun o z u hz h => o z u (fun e => by
      rcases List.mem_cons.mp e with rfl | e
      · rw [nsp] at h; cases h
      · exact hz e) (s12 _ _ h)
    obtain ⟨fvs, fo, hfl1, hfl2⟩ := id hfl
    have hfll := hfl2.len
    refine ⟨fl, rfl, ⟨_, .inl (.inr ⟨fo, hfl1⟩)⟩, ?_⟩
    refine for_it (walk_list (K := K) (a := fl) (xs := fvs)) (fun i σ G' => ∃ (qq : List Tie × List Tst) (us : List V) (y4 : Option V), (ft.take i).foldlM sfS (ties, []) = some qq ∧ σ = [some (.ref ma), some (.ref ga), some (.ref ta), some (.ref sp), y4, none, none, none, none, none, none] ∧ OffL (sp :: ds) H2 G' ∧ TiesAt G' ta ds qq.1 ∧ G' sp = some (.lst us) ∧ Ls (RTst K) G' us qq.2)
      ⟨(ties, []), [], none, rfl, rfl, OffL.refl _ _, hT2, e2, .nil⟩ (fun i σ G' _ ⟨_, _, _, _, _, o, _⟩ => .inl (.inr ⟨fo, (facts o).1 _ _ hfl1 id⟩)) ?_ ?_
    · rintro i x σ G1 G2 hi ⟨qq, us, y4, hf, rfl, oG, hTG, hu, hls⟩ ⟨rfl, hx⟩
      obtain ⟨t, ht⟩ : ∃ t, ft[i]? = some t := ⟨ft[i]'(by omega), List.getElem?_eq_getElem (by omega)⟩
      have hxt := fst_RTst _ _ _ _ (facts oG).1.wk (hfl2.at_ i x t hx ht)
      obtain ⟨qq', h1, h2⟩ := foldM_step hq0 ht hf
      obtain ⟨b, tn, h3, h4, h5⟩ := sfS_some h1
      refine ⟨_, rfl, _, rfl, x, ta, t, ds, qq.1, tn, b, rfl, hxt, hTG, h3, fun G3 hT3 o3 => ⟨b, rfl, ?_⟩⟩
      have oG3 : OffL (sp :: ds) H2 G3 := OffL.trans oG (fun z u hz h => o3 z u (fun e => hz (List.mem_cons_of_mem _ e)) h)
      have hu3 := o3 _ _ spd hu
      have f3 : Fch G2 G3 := fch_offl hTG.ck o3
      have hls3 := hls.fch fst_RTst f3
      have hul := hls.len
      cases b with
      | false =>
        refine iteF' rfl ?_
        refine ⟨qq', us, _, h2, rfl, oG3, ?_, hu3, ?_⟩
        · rw [h5]; exact hT3
        · rw [h5]; exact hls3
      | true =>
        refine iteT' rfl ?_
        refine ⟨_, rfl, .inl ⟨rfl, _, SqL.of hu3⟩, _, rfl, sp, _, _, rfl, rfl, hu3, by omega, ?_⟩
        have oc : Och sp G3 (upd G3 sp (.lst (us ++ [x]))) := ⟨OffD.upd (fun _ _ _ h => h), ⟨_, hu3, True.intro⟩⟩
        refine ⟨qq', us ++ [x], _, h2, rfl, fun z u hz h => oc.off z u (fun e => hz (by rw [e]; exact List.mem_cons_self)) (oG3 z u hz h), ?_, upd_same, ?_⟩
        · rw [h5]; exact hT3.och oc spd
        · rw [h5]; exact (hls3.snoc (fst_RTst _ _ _ _ f3.wk hxt)).fch fst_RTst oc.fch
    · rintro σ G1 ⟨qq, us, y4, hf, rfl, oG, hTG, hu, hls⟩
      have eT : ft.take fvs.length = ft := List.take_of_length_le (by omega)
      rw [eT, hq0] at hf
      obtain rfl := Option.some.inj hf
      obtain ⟨f1, hM1⟩ := facts oG
      refine ⟨_, rfl, ga, G, mb, rfl, hG2.fch f1, hmb, fun ml H4 s4 hml => ?_⟩
      refine ⟨fun m σ G' => ∃ (qq : List Tie × List Tst) (us : List V) (k : Nat) (y4 y7 y8 y9 y10 : Option V), σ = [some (.ref ma), some (.ref ga), some (.ref ta), some (.ref sp), y4, some (.ref ml), some (.int (k : Nat)), y7, y8, y9, y10] ∧ OffL (sp :: ds) H2 G' ∧ FL (RL (RP K)) G' ml mb ∧ TiesAt G' ta ds qq.1 ∧ G' sp = some (.lst us) ∧ Ls (RTst K) G' us qq.2 ∧ spendLoop M G mb m k qq = some ties',
        ⟨fuel, q0, us, 0, _, _, _, _, _, rfl, OffL.trans oG (OffL.same s4), hml, hTG.same s4, s4 _ _ hu, hls.wk fst_RTst (Wk.of s4), hm⟩, ?_⟩
      clear hm hf hq0 hu hls hTG oG hM1 f1 s4 hml
      rintro m σ G1 ⟨qq, us, k, y4, y7, y8, y9, y10, rfl, oG, hml, hTG, hu, hls, hm⟩
      have hul := hls.len
      refine ⟨_, rfl, _, rfl, _, _, rfl, .inl ⟨_, SqL.of hu, rfl⟩, _, _, rfl, rfl, _, rfl, ?_⟩
      cases m with
      | zero => cases hm
      | succ n =>
        unfold spendLoop at hm
        cases hk : qq.2[k]? with
        | none =>
          rw [hk] at hm
          have hm : some qq.1 = some ties' := hm
          cases Option.some.inj hm
          rw [List.getElem?_eq_none_iff] at hk
          refine iteF' (decide_eq_false (by omega)) ?_
          exact q G1 hTG (fin oG)
        | some t =>
          rw [hk] at hm
          obtain ⟨mv, hmv, hm⟩ := bnd_some.mp hm
          obtain ⟨qr, hqr, hm⟩ := bnd_some.mp hm
          have lt := get_lt hk
          refine iteT' (decide_eq_true (by omega)) ?_
          refine ⟨_, fun σ' H' h => ⟨n, Nat.lt_succ_self n, h⟩, ?_⟩
          obtain ⟨v, hv, tt, d, rfl, htt, hd⟩ := hls.get hk
          refine ⟨_, rfl, _, rfl, sp, _, (k : Int), .ref tt, rfl, rfl, SqL.of hu, atI_nat hv, tt, _, rfl, htt, rfl, _, _, rfl, _, _, rfl, rfl, ?_⟩
          obtain ⟨mvs, mo, hml1, hml2⟩ := id hml
          obtain ⟨t10, hmv⟩ := at_some hmv
          obtain ⟨v2, hv2, lb, rfl, lvs, lo, hlb1, hlb2⟩ := hml2.get hmv
          have hlbl := hlb2.len
          refine ⟨_, rfl, _, rfl, ml, _, t.1, .ref lb, rfl, rfl, .inl (.inr ⟨mo, hml1⟩), atI_of t10 hv2, lb, rfl, ⟨_, .inl (.inr ⟨lo, hlb1⟩)⟩, ?_⟩
          refine for_it (walk_list (K := K) (a := lb) (xs := lvs)) (fun j σ G' => ∃ (q2 : List Tie × List Tst) (us : List V) (y4 y9 y10 : Option V), (mv.take j).foldlM (srS M G t.2) qq = some q2 ∧ σ = [some (.ref ma), some (.ref ga), some (.ref ta), some (.ref sp), y4, some (.ref ml), some (.int (k : Nat)), some (.int t.1), some (.ref d), y9, y10] ∧ OffL (sp :: ds) H2 G' ∧ Fch G1 G' ∧ TiesAt G' ta ds q2.1 ∧ G' sp = some (.lst us) ∧ Ls (RTst K) G' us q2.2)
            ⟨qq, us, y4, y9, y10, rfl, rfl, oG, Fch.refl _, hTG, hu, hls⟩ (fun j σ G' _ ⟨_, _, _, _, _, _, _, _, f, _⟩ => .inl (.inr ⟨lo, f _ _ hlb1 id⟩)) ?_ ?_
          · clear hu hls oG hul
            rintro j x σ G3 G4 hj ⟨q2, us, y4, y9, y10, hf, rfl, oG, fG, hT3, hu, hls⟩ ⟨rfl, hx⟩
            have hul := hls.len
            obtain ⟨p, hp⟩ : ∃ p, mv[j]? = some p := ⟨mv[j]'(by omega), List.getElem?_eq_getElem (by omega)⟩
            obtain ⟨pt, rfl, hpt⟩ := hlb2.at_ j x p hx hp
            obtain ⟨q3, h1, h2⟩ := foldM_step hqr hp hf
            unfold srS at h1
            obtain ⟨tied, hti, h1⟩ := bnd_some.mp h1
            obtain ⟨hp0, hti⟩ := at_some hti
            obtain ⟨⟨to, ht1⟩, ht2, ht3, ht4⟩ := id hT3
            have lt2 := get_lt hti
            obtain ⟨dd, hdd⟩ : ∃ dd, ds[p.1.toNat]? = some dd := ⟨ds[p.1.toNat]'(by omega), List.getElem?_eq_getElem (by omega)⟩
            obtain ⟨L, hL1, hL2, _⟩ := ht4 _ dd tied hdd hti
            refine ⟨pt, _, rfl, sqt_fch fG hpt, rfl, _, _, rfl, _, _, rfl, rfl, ?_⟩
            refine ⟨_, rfl, _, rfl, ta, _, p.1, .ref dd, rfl, rfl, .inl (.inr ⟨to, ht1⟩), atI_of hp0 (by rw [List.getElem?_map, hdd]; rfl), !(L.map lkv).isEmpty, .inr (.inr ⟨_, hL1, rfl⟩), ?_⟩
            have eE : (L.map lkv).isEmpty = tied.isEmpty := by rw [← hL2, List.isEmpty_map, List.isEmpty_map]
            rw [eE]
            cases hE : tied.isEmpty with
            | true =>
              rw [hE, if_pos rfl] at h1
              cases Option.some.inj h1
              refine iteF' rfl ?_
              exact ⟨q2, us, _, _, _, h2, rfl, oG, fG, hT3, hu, hls⟩
            | false =>
              rw [hE, if_neg Bool.false_ne_true] at h1
              obtain ⟨tn, htn, h1⟩ := bnd_some.mp h1
              refine iteT' rfl ?_
              obtain ⟨f3, hM3⟩ := facts oG
              refine ⟨_, rfl, _, rfl, _, rfl, _, rfl, _, rfl, ma, ga, d, p.1, p.2, X, ps, M, G, t.2, tn, rfl, hM3, hG2.fch f3, vecf_wk fG.wk hd, htn, fun v H5 s5 hv5 => ?_⟩
              obtain ⟨b, ties2, h3, h4, h5⟩ := sfS_some h1
              have hT5 := hT3.same s5
              refine ⟨_, rfl, _, rfl, v, ta, tn, ds, q2.1, ties2, b, rfl, hv5, hT5, h3, fun G6 hT6 o6 => ⟨b, rfl, ?_⟩⟩
              have oG6 : OffL (sp :: ds) H2 G6 := OffL.trans (OffL.trans oG (OffL.same s5)) (fun z u hz h => o6 z u (fun e => hz (List.mem_cons_of_mem _ e)) h)
              have hu6 := o6 _ _ spd (s5 _ _ hu)
              have f6 : Fch H5 G6 := fch_offl hT5.ck o6
              have hls6 := (hls.wk fst_RTst (Wk.of s5)).fch fst_RTst f6
              have fG6 := (fG.trans (Fch.of s5)).trans f6
              cases b with
              | false =>
                refine iteF' rfl ?_
                refine ⟨q3, us, _, _, _, h2, rfl, oG6, fG6, ?_, hu6, ?_⟩
                · rw [h5]; exact hT6
                · rw [h5]; exact hls6
              | true =>
                refine iteT' rfl ?_
                refine ⟨_, rfl, .inl ⟨rfl, _, SqL.of hu6⟩, _, rfl, sp, _, _, rfl, rfl, hu6, by omega, ?_⟩
                have oc : Och sp G6 (upd G6 sp (.lst (us ++ [v]))) := ⟨OffD.upd (fun _ _ _ h => h), ⟨_, hu6, True.intro⟩⟩
                refine ⟨q3, us ++ [v], _, _, _, h2, rfl, fun z u hz h => oc.off z u (fun e => hz (by rw [e]; exact List.mem_cons_self)) (oG6 z u hz h), fG6.trans oc.fch, ?_, upd_same, ?_⟩
                · rw [h5]; exact hT6.och oc spd
                · rw [h5]; exact (hls6.snoc (fst_RTst _ _ _ _ f6.wk hv5)).fch fst_RTst oc.fch
          · rintro σ G3 ⟨q2, us, y4, y9, y10, hf, rfl, oG, fG, hT3, hu, hls⟩
            have eT : mv.take lvs.length = mv := List.take_of_length_le (by omega)
            rw [eT, hqr] at hf
            obtain rfl := Option.some.inj hf
            exact ⟨_, rfl, _, _, rfl, rfl, qr, us, k + 1, _, _, _, _, _, rfl, oG, hml.fch (fst_RL fst_RP) fG, hT3, hu, hls, hm⟩
end
end FC
set_option Elab.async false
set_option linter.all false
set_option maxRecDepth 100000
set_option maxHeartbeats 4000000
/-! told_rests. -/
namespace FC
open PySem PySem.Spec PyProof.Rows L2
def tFzS (t : TS) : TS := fun D σ H => t D σ H ∨ ∃ a u, H a = some u ∧ Mut (some u) ∧ ∀ o, t D σ (upd H a (.frz o u))
def tFzE (t : TE) : TE := fun σ H Q => t σ H fun v H1 => Q v H1 ∨ ∃ a u, v = .ref a ∧ H1 a = some u ∧ Mut (some u) ∧ ∀ o, Q v (upd H1 a (.frz o u))
theorem ps_frzN {X : Cx} {st : Stmt} {t : TS} (h : PS X st t) : PS X st (tFzS t) := ps_frz h
theorem pe_frzN {X : Cx} {e : Expr} {t : TE} (h : PE X e t) : PE X e (tFzE t) := pe_frz h
def RBld (K : PySem.W.Frag) (H : Hp) (v : V) (b : Bld) : Prop := ∃ a, v = .ref a ∧ BldAt K H a b
theorem fst_RBld {K : PySem.W.Frag} : FSt (RBld K) := fun _ _ _ _ s ⟨a, e, h⟩ => ⟨a, e, bld_wk s h⟩
theorem tbl_of {K : PySem.W.Frag} {H : Hp} {t : Addr} {tb : List Bld} (h : FL (RBld K) H t tb) : TblAt K H t tb := by
  obtain ⟨vs, o, h1, h2⟩ := h
  refine ⟨vs, .inl (.inl (.inr ⟨o, h1⟩)), fun i b hb => ?_⟩
  obtain ⟨v, hv, a, rfl, ha⟩ := h2.get hb
  exact ⟨a, hv, ha⟩
theorem tie0_snoc (l : List Int) (a : Int) : tie0 (l ++ [a]) = spnPut (tie0 l) a [(a, 1)] := by
  unfold tie0
  rw [List.foldl_append]
  rfl
theorem tie0_nd (l : List Int) : ((tie0 l).map (·.1)).Nodup := by
  have : ∀ (l : List Int) (t : Tie), (t.map (·.1)).Nodup → ((l.foldl (fun t a => spnPut t a [(a, 1)]) t).map (·.1)).Nodup := by
    intro l
    induction l with
    | nil => exact fun t h => h
    | cons a l ih => exact fun t h => ih _ (spnPut_nd h)
  exact this l [] List.nodup_nil
theorem spnPut_len (S : Spn) (k : Int) (v : Vec) : (spnPut S k v).length ≤ S.length + 1 := by
  unfold spnPut
  split
  · rw [List.length_map]; omega
  · rw [List.length_append]; exact Nat.le_refl _
theorem tie0_len (l : List Int) : (tie0 l).length ≤ l.length := by
  have : ∀ (l : List Int) (t : Tie), (l.foldl (fun t a => spnPut t a [(a, 1)]) t).length ≤ t.length + l.length := by
    intro l
    induction l with
    | nil => exact fun t => Nat.le_refl _
    | cons a l ih =>
      intro t
      have h1 := ih (spnPut t a [(a, 1)])
      have h2 := spnPut_len t a [(a, 1)]
      rw [List.foldl_cons, List.length_cons]
      omega
  have := this l []
  rw [List.length_nil, Nat.zero_add] at this
  exact this
theorem Ls.set {α : Type} {R : Hp → V → α → Prop} {H : Hp} {us : List V} {l : List α} (h : Ls R H us l) {j : Nat} {v : V} {x : α} (hv : R H v x) : Ls R H (us.set j v) (l.set j x) := by
  refine ⟨by rw [List.length_set, List.length_set, h.len], fun i u y e1 e2 => ?_⟩
  by_cases hj : j = i
  · subst hj
    have hl := h.len
    have lt := get_lt e1
    rw [List.length_set] at lt
    rw [List.getElem?_set_self' ] at e1 e2
    rw [List.getElem?_eq_getElem lt] at e1
    rw [List.getElem?_eq_getElem (by omega)] at e2
    obtain rfl : v = u := Option.some.inj e1
    obtain rfl : x = y := Option.some.inj e2
    exact hv
  · rw [List.getElem?_set_ne hj] at e1 e2
    exact h.at_ i u y e1 e2
theorem lkv_get {L : Lns} {i : Nat} {x y : V} (hx : ((L.map lkv)[i]?.map fun kv => kV kv.1) = some x) (hy : (L.map lkv)[i]?.map Prod.snd = some y) : ∃ z, L[i]? = some z ∧ x = .int z.1 ∧ y = .ref z.2.2 := by
  rw [List.getElem?_map] at hx hy
  cases e : L[i]? with
  | none => rw [e] at hx; cases hx
  | some z =>
    rw [e] at hx hy
    exact ⟨z, rfl, (Option.some.inj hx).symm, (Option.some.inj hy).symm⟩
def spToldRests (P : Program) (w : World) (K : PySem.W.Frag) (SC MCl GCl : Addr) : Sp := fun vs H Q _ => ∃ (ma ga : Addr) (X : MC) (ps : List Stp) (M : Mac) (G : Grp) (fuel : Nat) (r : List Bld), vs = [.ref ma, .ref ga] ∧ MacAt P w K SC MCl H ma X ps M ∧ GrpAt K GCl H ga G ∧ toldRests fuel M G (moduliOf ps).2 = some r ∧
  ∀ (t : Addr) H', Same H H' → FL (RBld K) H' t r → Q (.ref t) H'
section
variable {P : Program} {w : World} {K : PySem.W.Frag} {mg : Str → Option Value} {base : Heap} {SC MCl GCl : Addr}
abbrev NTr : List Str := ["machine", "groups", "ties", "told", "anchors", "anchor", "tied", "tie"]
theorem scToldRests : FnScope NTr ["machine", "groups"] (defScope sToldRests) := ⟨rfl, rfl, rfl, by decide +kernel, rfl, by decide +kernel, by decide +kernel⟩
theorem ok_toldRests {f : Addr} {fd : FuncData} (F : Fun K "told_rests" "told_rests" sToldRests f fd) (T : McT K MCl) (TG : GrT K GCl) (B : Blt mg) (CS : Cal P w K mg base CX0 4 "spend_tests" ["machine", "groups", "ties"] (spSpend P w K SC MCl GCl)) (CO : Cal P w K mg base CX0 1 "only" ["key"] (spOnly K)) (CU : Cal P w K mg base CX0 3 "untied" ["anchor", "tie"] (spUntied K)) : FnOk P w K mg base CX0 5 f fd ["machine", "groups"] (spToldRests P w K SC MCl GCl) := by
  refine F.ok scToldRests (fun vs H Q E h => ?_) (fun cdv A outer s H vs Q E hr h => ?_)
  · obtain ⟨ma, ga, X, ps, M, G, fuel, r, rfl, _⟩ := h
    rfl
  · obtain ⟨ma, ga, X, ps, M, G, fuel, r, rfl, hM, hG, hm, q⟩ := h
    have nd := scToldRests.nd
    have hr1 : Room 1 _ := hr.mono (by decide)
    have hr3 : Room 3 _ := hr.mono (by decide)
    refine ⟨_, pss_cons (ps_setLc (i := 2) (own := [("anchors", 4)]) (g := gName 4) (tt := tYes) (te := tDc (iList K (tVar 4)) (gName 5) tYes (tVar 5) (tFzE (tDisp [(tVar 5, tC (.int 1))])) [5]) (by rfl) nd rfl rfl (sw_true rfl rfl rfl (by decide +kernel)) (pi_list (pe_fld (pv 1) rfl)) (blkOk_by (own := [("anchors", 4)]) (N := NTr) (sc := defScope sToldRests) (by decide +kernel)) (fun _ _ _ _ _ => pg_name (i := 4) nd rfl (Or.inl rfl))
            (fun _ _ _ _ _ => pts_nil) (fun _ _ _ _ _ => pe_dc (own := [("anchor", 5)]) (g := gName 5) rfl nd (pi_list (pv 4)) (blkOk_by (own := [("anchor", 5)]) (N := NTr) (by rfl)) (fun _ _ _ _ _ => pg_name (i := 5) nd rfl (Or.inl rfl)) (fun _ _ _ _ _ => pts_nil) (fun _ _ _ _ _ => pv 5) (fun _ _ _ _ _ => pe_frzN (pe_disp (pps_cons (pv 5) pe_int pps_nil) rfl rfl (by simp) (by decide)))))
      (pss_cons (ps_frz (ps_expr (pe_cal CS hr pass0 (pa_cons (pv 0) (pa_cons (pv 1) (pa_cons (pv 2) pa_nil))))))
      (pss_cons (ps_setLc (i := 3) (own := [("anchor", 5)]) (g := gName 5) (tt := tYes) (te := tCal (spOnly K) E0 (tCons (tVar 5) tNil)) (by rfl) nd rfl rfl (sw_true rfl rfl rfl (by decide +kernel)) (pi_range1 (by rfl) B.range (pa_cons (pe_callB call_len (by rfl) B.len PySem.boot_len (pa_cons (pe_fld (pv 0) rfl) pa_nil)) pa_nil)) (blkOk_by (own := [("anchor", 5)]) (N := NTr) (sc := defScope sToldRests) (by decide +kernel)) (fun _ _ _ _ _ => pg_name (i := 5) nd rfl (Or.inl rfl))
            (fun _ _ _ _ _ => pts_nil) (fun _ _ _ _ _ => pe_cal CO hr1 pass0 (pa_cons (pv 5) pa_nil)))
      (pss_cons (ps_for PassesOwn.never rfl (pi_list (pv 2)) (pg_name (i := 6) nd rfl (Or.inl rfl))
        (pss_one (ps_frzN (ps_for PassesOwn.never rfl (pi_items (pv 6)) (pg_tup rfl (pgs_cons (pg_name (i := 5) nd rfl (Or.inl rfl)) (pgs_cons (pg_name (i := 7) nd rfl (Or.inl rfl)) pgs_nil)))
          (pss_one (ps_asg (pe_cal CU hr3 pass0 (pa_cons (pv 5) (pa_cons (pv 7) pa_nil))) (pg_sub (pv 3) (pv 5) set_list)))))))
      (pss_one (ps_ret (pe_frz (pv 3))))))), ?_⟩
    unfold toldRests at hm
    obtain ⟨_, hg, hm⟩ := bnd_some.mp hm
    obtain ⟨ties, hsp, hm⟩ := bnd_some.mp hm
    have hg := grd_some.mp hg
    rw [Bool.and_eq_true, Bool.and_eq_true, decide_eq_true_eq, decide_eq_true_eq, List.all_eq_true] at hg
    obtain ⟨hg1, hg2, hg3⟩ := hg
    have hsz : 200000 < sizeLine := by rw [sizeLine_eq]; omega
    obtain ⟨dxm, him⟩ := hM.ins
    obtain ⟨dxg, fa, oa, ca, aa, g1, g2, g3, g4, g5⟩ := id hG
    obtain ⟨avs, ao, a1, a2⟩ := g5
    have hal := a2.len
    refine ⟨_, rfl, ga, GCl, dxg, _, _, rfl, g1, TG.cl, TG.na, rfl, aa, rfl, ⟨_, .inl (.inr ⟨ao, a1⟩)⟩, fun tl ntl => ?_⟩
    refine lc_new (U := TieAt) (walk_list (K := K) (a := aa) (xs := avs)) (fun _ _ _ _ s h => h.same s) (fun d _ _ _ _ o n h => h.och o n.symm) (fun _ _ _ ⟨_, h, _⟩ => ⟨_, h⟩) (G.anchors.map tie0) (by rw [List.length_map]; omega) (by omega) ntl (fun H2 s2 => .inl (.inr ⟨ao, s2 _ _ a1⟩)) ?_ ?_
    · rintro i x y H2 H3 Nx hy s2 ⟨rfl, hx⟩ fin
      rw [List.getElem?_map] at hy
      obtain ⟨as, has, rfl⟩ := Option.map_eq_some_iff.mp hy
      obtain ⟨ab, rfl, ws, ao', b1, b2⟩ := a2.at_ i x as hx has
      have := ls_int b2
      subst this
      have b1' := s2 _ _ b1
      have hasl := of_decide_eq_true (hg3 as (List.mem_of_getElem? has))
      refine ⟨rfl, _, rfl, ab, rfl, ⟨_, .inl (.inr ⟨ao', b1'⟩)⟩, fun D hD => ?_⟩
      refine dc_it (walk_list (K := K) (a := ab) (xs := as.map V.int)) (fun n H' => Same H3 H' ∧ ∃ L : Lns, H' D = some (.dK (L.map lkv)) ∧ L.map lsv = tie0 (as.take n) ∧ (∀ x ∈ L, VecF H' x.2.2 x.2.1)) ⟨same_upd (Same.refl H3) hD, [], upd_same, by rw [List.take_zero]; rfl, fun x hx => nomatch hx⟩ (fun n H' _ z => .inl (.inr ⟨ao', z.1 _ _ b1'⟩)) ?_ ?_
      · rintro n x H7 H8 hn ⟨s7, L, h7, hL, hv⟩ ⟨rfl, hx⟩
        rw [List.getElem?_map] at hx
        obtain ⟨a, ha, rfl⟩ := Option.map_eq_some_iff.mp hx
        have hLl : L.length ≤ n := by
          have h1 : (tie0 (as.take n)).length ≤ (as.take n).length := tie0_len _
          have h2 : (as.take n).length ≤ n := by rw [List.length_take]; omega
          rw [← hL, List.length_map] at h1
          omega
        refine ⟨rfl, _, rfl, fun p hp => ⟨_, rfl, upd_same, [(.inl a, .int 1)], rfl, (by show 1 ≤ 15; decide), .inr ⟨p, _, rfl, upd_same, True.intro, fun o => ?_⟩⟩⟩
        rw [upd_upd, upd_upd]
        have s8 := same_upd (o := .frz o (.dK (mergeK [] [(Sum.inl a, V.int 1)]))) (Same.refl H8) hp
        have v8 : VecF (upd H8 p (.frz o (.dK (mergeK [] [(Sum.inl a, V.int 1)])))) p [(a, 1)] := ⟨⟨o, upd_same⟩, by unfold Dst; simp⟩
        generalize upd H8 p (.frz o (.dK (mergeK [] [(Sum.inl a, V.int 1)]))) = H9 at s8 v8 ⊢
        have h9 := s8 _ _ h7
        rw [List.length_map] at hn
        refine ⟨L.map lkv, .inl a, rfl, h9, by rw [List.length_map]; omega, ?_⟩
        rw [putK_lkv L a [(a, 1)] p]
        have oc : Och D H9 (upd H9 D (.dK ((lput L a [(a, 1)] p).map lkv))) := ⟨OffD.upd (fun _ _ _ h => h), ⟨_, h9, True.intro⟩⟩
        refine ⟨Same.updn (Same.trans s7 s8) hD, lput L a [(a, 1)] p, upd_same, ?_, fun x hx => ?_⟩
        · rw [lput_lsv, hL, take_succ_get ha, tie0_snoc]
        · rcases lput_mem hx with h5 | ⟨h5, h6⟩
          · exact vecf_och oc ((hv x h5).same s8)
          · rw [h5, h6]
            exact vecf_och oc v8
      · rintro H7 ⟨s7, L, h7, hL, hv⟩
        rw [List.length_map, List.take_length] at hL
        exact fin D H7 s7 hD ⟨L, h7, hL, hv, tie0_nd as⟩
    intro H1 ds s1 hds hN hDd
    refine .inr ⟨tl, _, hds, True.intro, fun ot => ?_⟩
    have oct : Och tl H1 (upd H1 tl (.frz ot (.lst (ds.map V.ref)))) := ⟨OffD.upd (fun _ _ _ h => h), ⟨_, hds, True.intro⟩⟩
    have s2 : Same H (upd H1 tl (.frz ot (.lst (ds.map V.ref)))) := Same.updn s1 ntl
    have hT2 : TiesAt (upd H1 tl (.frz ot (.lst (ds.map V.ref)))) tl ds (G.anchors.map tie0) := ⟨⟨ot, upd_same⟩, hN.nd, hN.len, fun i d tied e1 e2 => (hN.at_ i d tied e1 e2).och oct (fun z => hDd (by rw [← z]; exact List.mem_of_getElem? e1))⟩
    generalize upd H1 tl (.frz ot (.lst (ds.map V.ref))) = H2 at s2 hT2 ⊢
    have hdsH : ∀ d ∈ ds, H d = none := hN.new
    refine ⟨_, rfl, _, rfl, _, rfl, ma, ga, tl, X, ps, M, G, ds, fuel, _, ties, rfl, hM.same s2, hG.fch (Fch.of s2), hT2, fun d hd z => ?_, hsp, hg2, fun H3 hT3 o3 => ?_⟩
    · obtain ⟨o, ho, _⟩ := mac_ck hM d z
      rw [hdsH d hd] at ho
      cases ho
    have s3 : Same H H3 := fun z o h => o3 z o (fun e => by rw [hdsH z e] at h; cases h) (s2 _ _ h)
    have hM3 := hM.same s3
    obtain ⟨w1, w2, w3⟩ := hM3.anchors
    refine ⟨_, rfl, ma, MCl, dxm, _, _, rfl, s3 _ _ him, T.cl, T.nan, rfl, _, _, rfl, .inl ⟨_, SqL.of w1, rfl⟩, _, rfl, by omega, ?_, fun ul nul => ?_⟩
    · rw [List.length_map, w2]; omega
    have hwl : (X.st.map V.ref).length = M.anchors.length := by rw [List.length_map, w2]
    refine lc_ls (R := RBld K) (walk_range (lo := 0) (n := (((X.st.map V.ref).length : Nat) : Int).toNat)) fst_RBld (told0 M.anchors.length) (by unfold told0; rw [List.length_map, upto_len, hwl]) (by omega) nul (fun _ _ => True.intro) ?_ ?_
    · rintro i x y H4 H5 Nx hy s4 ⟨rfl, rfl⟩ fin
      unfold told0 at hy
      rw [List.getElem?_map] at hy
      obtain ⟨k, hk, rfl⟩ := Option.map_eq_some_iff.mp hy
      have hk' := get_lt hk
      rw [upto_len] at hk'
      rw [upto_get hk'] at hk
      obtain rfl := Option.some.inj hk
      refine ⟨rfl, _, rfl, (0 + i : Int), rfl, fun t H6 s6 ht => fin _ _ s6 ⟨t, rfl, ?_⟩⟩
      rw [Int.zero_add] at ht
      exact ht
    intro H4 us4 s4 hu4 hls4
    have s34 := Same.trans s3 s4
    have hT4 := hT3.same s4
    obtain ⟨tn1, tn2, tn3, tn4⟩ := id hT4
    obtain ⟨ot4, tn1⟩ := tn1
    have nulH := none_same s3 nul
    have uld : ul ∉ ds := fun z => by
      obtain ⟨o, ho, _⟩ := hT3.ck ul z
      rw [nul] at ho
      cases ho
    refine ⟨_, rfl, tl, rfl, ⟨_, .inl (.inr ⟨ot4, tn1⟩)⟩, ?_⟩
    refine for_it (walk_list (K := K) (a := tl) (xs := ds.map V.ref)) (fun i σ G' => ∃ (told : List Bld) (us : List V) (y5 y6 y7 : Option V), (ties.take i).foldlM tlT (told0 M.anchors.length) = some told ∧ σ = [some (.ref ma), some (.ref ga), some (.ref tl), some (.ref ul), none, y5, y6, y7] ∧ Same H G' ∧ Wk H4 G' ∧ G' ul = some (.lst us) ∧ Ls (RBld K) G' us told ∧ ∀ (j : Nat) (d : Addr) (tied : Tie), i ≤ j → ds[j]? = some d → ties[j]? = some tied → TieAt G' d tied)
      ⟨_, us4, none, none, none, rfl, rfl, s34, Wk.refl _, hu4, hls4, fun j d tied _ e1 e2 => tn4 j d tied e1 e2⟩ (fun i σ G' _ ⟨_, _, _, _, _, _, _, _, wk, _⟩ => .inl (.inr ⟨ot4, wk _ _ tn1 True.intro⟩)) ?_ ?_
    · rintro i x σ G1 G2 hi ⟨told, us, y5, y6, y7, hf, rfl, sG, wkG, hu, hls, hrest⟩ ⟨rfl, hx⟩
      rw [List.getElem?_map] at hx
      obtain ⟨d, hd, rfl⟩ := Option.map_eq_some_iff.mp hx
      obtain ⟨tied, hti⟩ : ∃ tied, ties[i]? = some tied := ⟨ties[i]'(by have := get_lt hd; omega), List.getElem?_eq_getElem (by have := get_lt hd; omega)⟩
      obtain ⟨told1, h1, h2⟩ := foldM_step hm hti hf
      have h1 : tied.foldlM tlA told = some told1 := h1
      obtain ⟨L, hL1, hL2, hL3, hL4⟩ := hrest i d tied (Nat.le_refl _) hd hti
      have hdm := List.mem_of_getElem? hd
      refine .inr ⟨d, _, hL1, True.intro, fun od => ?_⟩
      have nud : ul ≠ d := fun z => uld (by rw [z]; exact hdm)
      have oc : Och d G2 (upd G2 d (.frz od (.dK (L.map lkv)))) := ⟨OffD.upd (fun _ _ _ h => h), ⟨_, hL1, True.intro⟩⟩
      have sG3 : Same H (upd G2 d (.frz od (.dK (L.map lkv)))) := Same.updn sG (hdsH d hdm)
      have ed3 : upd G2 d (.frz od (.dK (L.map lkv))) d = some (.frz od (.dK (L.map lkv))) := upd_same
      have hu3 := oc.off _ _ nud hu
      have hls3 := hls.fch fst_RBld oc.fch
      have hL33 : ∀ x ∈ L, VecF (upd G2 d (.frz od (.dK (L.map lkv)))) x.2.2 x.2.1 := fun x hx => vecf_och oc (hL3 x hx)
      have hrest3 : ∀ (j : Nat) (e : Addr) (tj : Tie), i + 1 ≤ j → ds[j]? = some e → ties[j]? = some tj → TieAt (upd G2 d (.frz od (.dK (L.map lkv)))) e tj := fun j e tj hj e1 e2 => (hrest j e tj (by omega) e1 e2).och oc (fun z => by
        have := nodup_get tn2 hd (by rw [← z]; exact e1)
        omega)
      have wk3 : Wk H4 (upd G2 d (.frz od (.dK (L.map lkv)))) := wkG.trans oc.fch.wk
      generalize upd G2 d (.frz od (.dK (L.map lkv))) = G3 at sG3 ed3 hu3 hls3 hL33 hrest3 wk3 ⊢
      refine ⟨_, rfl, d, od, L.map lkv, rfl, ed3, ?_⟩
      have hLl : L.length = tied.length := by rw [← hL2, List.length_map]
      refine for_it (walk_items (d := d) (o := od) (kvs := L.map lkv)) (fun n σ G' => ∃ (told2 : List Bld) (us : List V) (y5 y7 : Option V), (tied.take n).foldlM tlA told = some told2 ∧ σ = [some (.ref ma), some (.ref ga), some (.ref tl), some (.ref ul), none, y5, some (.ref d), y7] ∧ Same H G' ∧ Fch G3 G' ∧ G' ul = some (.lst us) ∧ Ls (RBld K) G' us told2 ∧ ∀ z o, z ≠ ul → G3 z = some o → G' z = some o)
        ⟨told, us, y5, y7, rfl, rfl, sG3, Fch.refl _, hu3, hls3, fun _ _ _ h => h⟩ (fun n σ G' _ ⟨_, _, _, _, _, _, _, f, _⟩ => f _ _ ed3 id) ?_ ?_
      · rintro n xv σ G4 G5 hn ⟨told2, us, y5, y7, hf2, rfl, sG4, f4, hu4', hls4', off4⟩ ⟨Tt, x1, x2, rfl, hTt, rfl, e1, e2⟩
        obtain ⟨z, hz, rfl, rfl⟩ := lkv_get e1 e2
        have hzt : tied[n]? = some (z.1, z.2.1) := by
          rw [← hL2, List.getElem?_map, hz]
          rfl
        obtain ⟨told3, h3, h4⟩ := foldM_step h1 hzt hf2
        unfold tlA at h3
        obtain ⟨ub, hub, h3⟩ := bnd_some.mp h3
        obtain ⟨_, hg4, h3⟩ := bnd_some.mp h3
        have h3 : told2.set z.1.toNat ub = told3 := Option.some.inj h3
        have hg4 := grd_some.mp hg4
        rw [Bool.and_eq_true, decide_eq_true_eq, decide_eq_true_eq] at hg4
        have hg40 : 0 ≤ z.1 := hg4.1
        have hg41 : z.1 < told2.length := hg4.2
        have s5 := same_upd (o := .tup [V.int z.1, .ref z.2.2]) (Same.refl G4) hTt
        have hzm := List.mem_of_getElem? hz
        refine ⟨Tt, [.int z.1, .ref z.2.2], rfl, sqt_new, rfl, _, _, rfl, _, _, rfl, rfl, ?_⟩
        refine ⟨_, rfl, _, rfl, z.2.2, z.1, z.2.1, ub, rfl, (vecf_wk f4.wk (hL33 z hzm)).same s5, hub, fun t G6 s6 ht => ?_⟩
        have hu6 := s6 _ _ (s5 _ _ hu4')
        have hul := hls4'.len
        refine ⟨_, rfl, _, rfl, ul, us, z.1, z.1.toNat, rfl, rfl, hu6, ?_, ?_⟩
        · unfold ixN
          rw [if_pos hg40, if_pos (by omega)]
        · have f7 : Fch G6 (upd G6 ul (.lst (us.set z.1.toNat (.ref t)))) := fch_upd (Fch.refl _) hu6 True.intro
          refine ⟨told3, us.set z.1.toNat (.ref t), _, _, h4, rfl, Same.updn (Same.trans sG4 (Same.trans s5 s6)) nulH, (f4.trans (Fch.of (Same.trans s5 s6))).trans f7, upd_same, ?_, fun c o hc h => ?_⟩
          · rw [← h3]
            exact (((hls4'.wk fst_RBld (Wk.of (Same.trans s5 s6))).set ⟨t, rfl, ht⟩).fch fst_RBld f7)
          · rw [upd_ne hc]
            exact s6 _ _ (s5 _ _ (off4 c o hc h))
      · rintro σ G4 ⟨told2, us, y5, y7, hf2, rfl, sG4, f4, hu4', hls4', off4⟩
        have eT : tied.take (L.map lkv).length = tied := List.take_of_length_le (by rw [List.length_map]; omega)
        rw [eT, h1] at hf2
        obtain rfl := Option.some.inj hf2
        refine ⟨told1, us, _, _, _, h2, rfl, sG4, wk3.trans f4.wk, hu4', hls4', fun j e tj hj e1 e2 => ?_⟩
        obtain ⟨L2, k1, k2, k3, k4⟩ := hrest3 j e tj hj e1 e2
        exact ⟨L2, off4 _ _ (fun z => uld (by rw [← z]; exact List.mem_of_getElem? e1)) k1, k2, fun x hx => vecf_wk f4.wk (k3 x hx), k4⟩
    · rintro σ G1 ⟨told, us, y5, y6, y7, hf, rfl, sG, wkG, hu, hls, hrest⟩
      have eT : ties.take (ds.map V.ref).length = ties := List.take_of_length_le (by rw [List.length_map]; omega)
      rw [eT, hm] at hf
      obtain rfl := Option.some.inj hf
      refine ⟨_, rfl, .inr ⟨ul, _, rfl, hu, True.intro, fun ob => ?_⟩⟩
      exact q ul _ (Same.updn sG nulH) ⟨us, ob, upd_same, hls.fch fst_RBld (fch_upd (Fch.refl _) hu True.intro)⟩
end
end FC
set_option Elab.async false
set_option linter.all false
set_option maxRecDepth 100000
set_option maxHeartbeats 4000000
/-! zip of three tuples. -/
namespace FC
open PySem PySem.Spec PyProof.Rows L2
theorem vals3 {x y z : V} {us : List Value} (r : Vals [x, y, z] us) : ∃ u v w', us = [u, v, w'] ∧ RelV x u ∧ RelV y v ∧ RelV z w' := by
  cases r with
  | cons r1 r2 =>
    obtain ⟨u, v, rfl, h1, h2⟩ := vals2 r2
    exact ⟨_, _, _, rfl, r1, h1, h2⟩
theorem z3_sep {I a b c : Addr} (ha : a < I) (hb : b < I) (hc : c < I) : ZipSep3 (I + 5) (I + 3) (I + 4) I (I + 1) (I + 2) [I, a] [I + 1, b] [I + 2, c] := by
  have ha' : @LT.lt Nat _ a I := ha
  have hb' : @LT.lt Nat _ b I := hb
  have hc' : @LT.lt Nat _ c I := hc
  have k : ∀ {x y : Nat}, x ≠ y → (x : Addr) ≠ (y : Addr) := fun h => h
  have k2 : ∀ {x y z : Nat}, x ≠ y → x ≠ z → (x : Addr) ∉ [(y : Addr), z] := fun h1 h2 h => by
    rcases List.mem_cons.mp h with e | e
    · exact h1 e
    · exact h2 (List.mem_singleton.mp e)
  constructor
  all_goals first
    | exact List.mem_cons_self
    | (refine k ?_; omega)
    | (refine k2 ?_ ?_ <;> omega)
/-- the tuples at a, b, c, the items in new tuples -/
def It3 (K : PySem.W.Frag) (a b c : Addr) : It :=
  ⟨fun i H => ∃ (xs ys zs : List V) (x y z : V), SqT K H a xs ∧ SqT K H b ys ∧ SqT K H c zs ∧ xs[i]? = some x ∧ ys[i]? = some y ∧ zs[i]? = some z,
    fun i H v H' => ∃ T x y z, v = .ref T ∧ H T = none ∧ H' = upd H T (.tup [x, y, z]) ∧ (∀ xs, SqT K H a xs → xs[i]? = some x) ∧ (∀ ys, SqT K H b ys → ys[i]? = some y) ∧ ∀ zs, SqT K H c zs → zs[i]? = some z,
    fun i H => ∃ xs ys zs : List V, SqT K H a xs ∧ SqT K H b ys ∧ SqT K H c zs ∧ i ≤ xs.length ∧ i ≤ ys.length ∧ i ≤ zs.length ∧ (i = xs.length ∨ i = ys.length ∨ i = zs.length)⟩
theorem turn_3 {P : Program} {w : World} {K : PySem.W.Frag} {elts : List Expr} {kk : Nat} {tpos : Pos} {a b c I : Addr} (ha : a < I) (hb : b < I) (hc3 : c < I) :
    Turn P w K (.Tuple elts kk tpos) (It3 K a b c) [I + 5, I + 3, I + 4, I, I + 1, I + 2] (I + 5) (fun i h => IsZip h (I + 5) (I + 3) (I + 4) .none ∧ IsTupOf3 h (I + 3) (.ref I) (.ref (I + 1)) (.ref (I + 2)) ∧ (∃ x y z, IsTupOf3 h (I + 4) x y z) ∧ h.IsTupleIter I a i ∧ h.IsTupleIter (I + 1) b i ∧ h.IsTupleIter (I + 2) c i) where
  mem := by simp
  obj := fun i h st d hd => by
    obtain ⟨c1, c2, ⟨x, y, z, c3⟩, ⟨o1, e1, _, d1⟩, ⟨o2, e2, _, d2⟩, ⟨o3, e3, _, d3⟩⟩ := st
    have hd' : d = I + 5 ∨ d = I + 3 ∨ d = I + 4 ∨ d = I ∨ d = I + 1 ∨ d = I + 2 := by simpa using hd
    rcases hd' with rfl | rfl | rfl | rfl | rfl | rfl
    · exact ⟨_, c1, fun v q => nomatch q⟩
    · exact ⟨_, c2, fun v q => nomatch q⟩
    · exact ⟨_, c3, fun v q => nomatch q⟩
    · exact ⟨o1, e1, fun v q => by rw [d1] at q; cases q⟩
    · exact ⟨o2, e2, fun v q => by rw [d2] at q; cases q⟩
    · exact ⟨o3, e3, fun v q => by rw [d3] at q; cases q⟩
  keep := fun i h h' st k => by
    obtain ⟨c1, c2, ⟨x, y, z, c3⟩, c4, c5, c6⟩ := st
    exact ⟨k (I + 5) (by simp) _ c1, k (I + 3) (by simp) _ c2, ⟨x, y, z, k (I + 4) (by simp) _ c3⟩, c4.at fun o q => k I (by simp) o q, c5.at fun o q => k (I + 1) (by simp) o q, c6.at fun o q => k (I + 2) (by simp) o q⟩
  item := by
    intro X hP hw hK hc i pins s σ H E Iv hf st hg
    subst hP hw hK
    obtain ⟨c1, c2, ⟨x0, y0, z0, c3⟩, c4, c5, c6⟩ := st
    obtain ⟨xs, ys, zs, x, y, z, qx, qy, qz, ex, ey, ez⟩ := hg
    obtain ⟨us, ru, pl, _⟩ := Iv.tuple qx
    obtain ⟨ws, rw', pt, _⟩ := Iv.tuple qy
    obtain ⟨vs, rv, pv', _⟩ := Iv.tuple qz
    obtain ⟨u, hu, r1⟩ := ru.get ex
    obtain ⟨v, hv, r2⟩ := rw'.get ey
    obtain ⟨t, ht, r3⟩ := rv.get ez
    have lz : I + 5 < s.heap.objs.size := Heap.lt_size c1
    have hh : X.A.in1.handled = none := Iv.ok.hd hc
    have hul : i < us.length := get_lt hu
    have hvl : i < ws.length := get_lt hv
    have htl : i < vs.length := get_lt ht
    refine wpAny_pyNext_zipD3_item (z3_sep ha hb hc3) (draws_tup hh I a (Nat.ne_of_lt ha) us.toArray) (draws_tup hh (I + 1) b (Nat.ne_of_lt (Nat.lt_succ_of_lt hb)) ws.toArray) (draws_tup hh (I + 2) c (Nat.ne_of_lt (Nat.lt_succ_of_lt (Nat.lt_succ_of_lt hc3))) vs.toArray) c1 c2 c3 ⟨c4, pl⟩ ⟨c5, pt⟩ ⟨c6, pv'⟩ (by simpa using hul) (by simpa using hvl) (by simpa using htl) fun u1 v1 t1 h' tk e1 e2 e3 z' TO' st1 st2 st3 hT _ hk => ?_
    obtain rfl : u = u1 := Option.some.inj (hu.symm.trans (by simpa using e1))
    obtain rfl : v = v1 := Option.some.inj (hv.symm.trans (by simpa using e2))
    obtain rfl : t = t1 := Option.some.inj (ht.symm.trans (by simpa using e3))
    refine ⟨_, rfl, wpAny_letOwnedTupleGo_zip (s := { s with heap := h', toks := tk }) z' fun h'' z'' sb => ?_⟩
    have hT2 : h''.get? s.heap.objs.size = some { cls := .type "tuple", data := .seq #[u, v, t] } := (sb.2 _ (Nat.ne_of_gt lz)).trans hT
    have nw : ObjOk X.prog X.w (upd H s.heap.objs.size (.tup [x, y, z])) h'' s.heap.objs.size (.tup [x, y, z]) := ⟨(by show 3 ≤ sizeLine; decide), [u, v, t], .cons r1 (.cons r2 (.cons r3 .nil)), ⟨_, hT2, rfl, _, rfl⟩⟩
    have I1 : Inv X pins σ (upd H s.heap.objs.size (.tup [x, y, z])) { s with heap := h'', toks := tk } :=
      Iv.turnedNew (t' := tk) (ch := [I + 5, I + 3, I + 4, I, I + 1, I + 2]) (fun d o hb' q => (sb.2 d (fun e => hb' (by simp [e]))).trans (hk d o (fun e => hb' (by simp [e])) (fun e => hb' (by simp [e])) (fun e => hb' (by simp [e])) (fun e => hb' (by simp [e])) (fun e => hb' (by simp [e])) q)) hf (Nat.le_refl _) nw
    refine ⟨.ref s.heap.objs.size, _, I1, rfl, ⟨_, x, y, z, rfl, Iv.hok.fresh (Nat.le_refl _), rfl, fun l hl => by rw [Iv.tuple_inj hl qx]; exact ex, fun l hl => by rw [Iv.tuple_inj hl qy]; exact ey, fun l hl => by rw [Iv.tuple_inj hl qz]; exact ez⟩, ⟨z'', ?_, ⟨u, v, t, ?_⟩, ?_, ?_, ?_⟩, fun d hcm => ?_⟩
    · exact (sb.2 _ (by simp)).trans (hk _ _ (by simp) (by simp) (by simp) (by simp) (by simp) c2)
    · exact (sb.2 _ (by simp)).trans TO'
    · exact st1.1.at fun o q => (sb.2 _ (by simp)).trans q
    · exact st2.1.at fun o q => (sb.2 _ (by simp)).trans q
    · exact st3.1.at fun o q => (sb.2 _ (by simp)).trans q
    · have hd' : d = I + 5 ∨ d = I + 3 ∨ d = I + 4 ∨ d = I ∨ d = I + 1 ∨ d = I + 2 := by simpa using hcm
      have le : @LE.le Nat _ d (I + 5) := by
        rcases hd' with e | e | e | e | e | e
        · exact Nat.le_of_eq e
        · exact Nat.le_trans (Nat.le_of_eq e) (Nat.add_le_add_left (by decide) I)
        · exact Nat.le_trans (Nat.le_of_eq e) (Nat.add_le_add_left (by decide) I)
        · exact Nat.le_trans (Nat.le_of_eq e) (Nat.le_add_right _ _)
        · exact Nat.le_trans (Nat.le_of_eq e) (Nat.add_le_add_left (by decide) I)
        · exact Nat.le_trans (Nat.le_of_eq e) (Nat.add_le_add_left (by decide) I)
      have lt : d < s.heap.objs.size := Nat.lt_of_le_of_lt le lz
      rw [upd_ne (Nat.ne_of_lt lt)]
      exact (hf d hcm).1
  done := by
    intro X hP hw hK hc i pins s σ H E Iv hf st hg
    subst hP hw hK
    obtain ⟨c1, c2, ⟨x0, y0, z0, c3⟩, c4, c5, c6⟩ := st
    obtain ⟨xs, ys, zs, qx, qy, qz, l1, l2, l3, l4⟩ := hg
    obtain ⟨us, ru, pl, _⟩ := Iv.tuple qx
    obtain ⟨ws, rw', pt, _⟩ := Iv.tuple qy
    obtain ⟨vs, rv, pv', _⟩ := Iv.tuple qz
    have n1 := ru.length
    have n2 := rw'.length
    have n3 := rv.length
    have hh : X.A.in1.handled = none := Iv.ok.hd hc
    refine wpAny_pyNext_zipD3_end (z3_sep ha hb hc3) (draws_tup hh I a (Nat.ne_of_lt ha) us.toArray) (draws_tup hh (I + 1) b (Nat.ne_of_lt (Nat.lt_succ_of_lt hb)) ws.toArray) (draws_tup hh (I + 2) c (Nat.ne_of_lt (Nat.lt_succ_of_lt (Nat.lt_succ_of_lt hc3))) vs.toArray) c1 c2 c3 ⟨c4, pl⟩ ⟨c5, pt⟩ ⟨c6, pv'⟩ (by simp; omega) (by simp; omega) (by simp; omega) (by simp; omega) fun h' tk hk => ?_
    exact ⟨rfl, Iv.turnedL (t' := tk) (ch := [I + 5, I + 3, I + 4, I, I + 1, I + 2]) (fun d o hb' q => hk d o (fun e => hb' (by simp [e])) (fun e => hb' (by simp [e])) (fun e => hb' (by simp [e])) (fun e => hb' (by simp [e])) (fun e => hb' (by simp [e])) q) hf⟩
  self := fun A i s Q E st h => wpAny_pyIter_zip st.1 h
/-- zip(tuple, tuple, tuple) -/
def iZip3 (K : PySem.W.Frag) (ta : TA) : TI := fun σ H R => ta σ H fun vs H1 => ∃ a b c xs ys zs, vs = [.ref a, .ref b, .ref c] ∧ SqT K H1 a xs ∧ SqT K H1 b ys ∧ SqT K H1 c zs ∧ R (It3 K a b c) H1
theorem pi_zip3 {X : Cx} {e e2 e3 : Expr} {ta : TA} {p pos tpos : Pos} {elts : List Expr} {kk : Nat} (hg : Gl X "zip") (hm : X.mg "zip" = none) (ha : PA X [e, e2, e3] ta)
    (st : starEach [e, e2, e3] X.env = (false, eval e X.env) :: starEach [e2, e3] X.env := by rfl) (pl : (backTo pos (starEach [e2, e3] X.env)).any (·.1) = false := by rfl) :
    PI X (.Tuple elts kk tpos) (.Call (.Name "zip" p) [e, e2, e3] [] pos) (iZip3 X.K ta) := by
  refine ⟨fun pins s σ H R I w => ?_⟩
  refine Call_ (ld_blt I hg hm PyProof.Rows.boot_zip (PyProof.Rows.callWith_type1 (thn (ha.run pos pins s σ H _ I w) fun us s1 ⟨vs, H1, I1, r1, a, b, c, xs, ys, zs, ev, qx, qy, qz, q⟩ => ?_) st pl))
  subst ev
  obtain ⟨u, v, t, rfl, ru, rv, rt⟩ := vals3 r1
  obtain rfl : u = Value.ref a := ru
  obtain rfl : v = Value.ref b := rv
  obtain rfl : t = Value.ref c := rt
  have fr : ∀ d, d ∈ [s1.heap.objs.size + 5, s1.heap.objs.size + 3, s1.heap.objs.size + 4, s1.heap.objs.size, s1.heap.objs.size + 1, s1.heap.objs.size + 2] → FpOk X pins H1 d := fun d hcm => by
    have le : s1.heap.objs.size ≤ d := by
      have hc' : d = s1.heap.objs.size + 5 ∨ d = s1.heap.objs.size + 3 ∨ d = s1.heap.objs.size + 4 ∨ d = s1.heap.objs.size ∨ d = s1.heap.objs.size + 1 ∨ d = s1.heap.objs.size + 2 := by simpa using hcm
      omega
    exact I1.fpOk le (I1.hok.fresh le)
  obtain ⟨us1, rw1, p1, _⟩ := I1.tuple qx
  obtain ⟨us2, rw2, p2, _⟩ := I1.tuple qy
  obtain ⟨us3, rw3, p3, _⟩ := I1.tuple qz
  obtain ⟨o1, ho1, _⟩ := id p1
  obtain ⟨o2, ho2, _⟩ := id p2
  obtain ⟨o3, ho3, _⟩ := id p3
  refine zip_begins3 (begins_tuple a us1.toArray) (begins_tuple b us2.toArray) (begins_tuple c us3.toArray) p1 p2 p3 fun h' c1 c2 c3 c4 c5 c6 _ hk => wpAny_pyIter_zip c1 ?_
  have I2 : Inv X pins σ H1 { s1 with heap := h' } := I1.kept (t' := s1.toks) hk
  exact ⟨s1.heap.objs.size + 5, [s1.heap.objs.size + 5, s1.heap.objs.size + 3, s1.heap.objs.size + 4, s1.heap.objs.size, s1.heap.objs.size + 1, s1.heap.objs.size + 2], _, _, H1, rfl, I2, turn_3 (Heap.lt_size ho1) (Heap.lt_size ho2) (Heap.lt_size ho3), ⟨c1, c2, ⟨_, _, _, c3⟩, ⟨_, c4, rfl, rfl⟩, ⟨_, c5, rfl, rfl⟩, ⟨_, c6, rfl, rfl⟩⟩, fr, q⟩
theorem walk_3 {K : PySem.W.Frag} {a b c : Addr} {xs ys zs : List V} : Walk (It3 K a b c) (min (min xs.length ys.length) zs.length) (fun H => SqT K H a xs ∧ SqT K H b ys ∧ SqT K H c zs)
    (fun i H v H' => ∃ T x y z, v = .ref T ∧ H T = none ∧ H' = upd H T (.tup [x, y, z]) ∧ xs[i]? = some x ∧ ys[i]? = some y ∧ zs[i]? = some z) := by
  refine ⟨fun i _ hi q => ⟨xs, ys, zs, xs[i]'(by omega), ys[i]'(by omega), zs[i]'(by omega), q.1, q.2.1, q.2.2, by simp [show i < xs.length by omega], by simp [show i < ys.length by omega], by simp [show i < zs.length by omega]⟩, fun _ q => ⟨xs, ys, zs, q.1, q.2.1, q.2.2, by omega, by omega, by omega, by omega⟩, fun i H v H' _ q y => ?_⟩
  obtain ⟨T, x, y, z, e1, e2, e3, e4, e5, e6⟩ := y
  exact ⟨T, x, y, z, e1, e2, e3, e4 xs q.1, e5 ys q.2.1, e6 zs q.2.2⟩
end FC
set_option Elab.async false
set_option linter.all false
set_option maxRecDepth 100000
set_option maxHeartbeats 4000000
/-! free_anchors, moves_told. -/
namespace FC
open PySem PySem.Spec PyProof.Rows L2
def RMt (K : PySem.W.Frag) (H : Hp) (v : V) (e : MvT) : Prop := ∃ t g b, v = .ref t ∧ SqT K H t [.ref g, .ref b] ∧ SqT K H g (e.1.map V.int) ∧ BldAt K H b e.2
theorem fst_RMt {K : PySem.W.Frag} : FSt (RMt K) := fun _ _ _ _ s ⟨t, g, b, e, h1, h2, h3⟩ => ⟨t, g, b, e, sqt_wk s h1, sqt_wk s h2, bld_wk s h3⟩
def spFree (K : PySem.W.Frag) : Sp := fun vs H Q _ => ∃ (ta : Addr) (told : List Bld), vs = [.ref ta] ∧ FL (RBld K) H ta told ∧ told.length < 100000 ∧ ∀ (t : Addr) H', Same H H' → FL RI H' t (freeAnchors told) → Q (.ref t) H'
def spMovesTold (P : Program) (w : World) (K : PySem.W.Frag) (SC MCl : Addr) : Sp := fun vs H Q _ => ∃ (ma ta : Addr) (a : Int) (X : MC) (ps : List Stp) (M : Mac) (told : List Bld) (r : List MvT), vs = [.ref ma, .ref ta, .int a] ∧ MacAt P w K SC MCl H ma X ps M ∧ FL (RBld K) H ta told ∧ movesTold M told a = some r ∧ ∀ (t : Addr) H', Same H H' → FL (RMt K) H' t r → Q (.ref t) H'
theorem fa_snoc (l : List (Bld × Nat)) (q : Bld × Nat) : (l ++ [q]).foldl faS [] = faS (l.foldl faS []) q := by
  rw [List.foldl_append]
  rfl
theorem fa_len : ∀ (l : List (Bld × Nat)) (acc : List Int), (l.foldl faS acc).length ≤ acc.length + l.length
  | [], acc => Nat.le_refl _
  | q :: l, acc => by
    have h1 := fa_len l (faS acc q)
    have h2 : (faS acc q).length ≤ acc.length + 1 := by
      unfold faS
      split
      · rw [List.length_append]; exact Nat.le_refl _
      · omega
    rw [List.foldl_cons, List.length_cons]
    omega
section
variable {P : Program} {w : World} {K : PySem.W.Frag} {mg : Str → Option Value} {base : Heap} {SC MCl : Addr}
abbrev NFa : List Str := ["told", "anchor", "parts", "_"]
theorem scFree : FnScope NFa ["told"] (defScope sFreeAnchors) := ⟨rfl, rfl, rfl, by decide +kernel, rfl, by decide +kernel, by decide +kernel⟩
theorem ok_free {f : Addr} {fd : FuncData} (F : Fun K "free_anchors" "free_anchors" sFreeAnchors f fd) (mE : mg "enumerate" = none) : FnOk P w K mg base CX0 1 f fd ["told"] (spFree K) := by
  refine F.ok scFree (fun vs H Q E h => ?_) (fun cdv A outer s H vs Q E hr h => ?_)
  · obtain ⟨ta, told, rfl, _⟩ := h
    rfl
  · obtain ⟨ta, told, rfl, hta, htl, q⟩ := h
    have nd := scFree.nd
    refine ⟨_, pss_one (ps_ret (pe_frz (pe_lc (own := [("anchor", 1), ("parts", 2), ("_", 3)]) (g := gTup K 2 (gCons (gName 1) (gCons (gTup K 2 (gCons (gName 2) (gCons (gName 3) gNil))) gNil))) (tt := tB (tDIn (tVar 1) (tVar 2))) (by rfl) nd (pi_enum (by rfl) mE (pa_cons (pv 0) pa_nil)) (blkOk_by (own := [("anchor", 1), ("parts", 2), ("_", 3)]) (N := NFa) (sc := defScope sFreeAnchors) (by decide +kernel))
      (fun _ _ _ _ _ => pg_tup rfl (pgs_cons (pg_name (i := 1) nd rfl (Or.inl rfl)) (pgs_cons (pg_tup rfl (pgs_cons (pg_name (i := 2) nd rfl (Or.inl rfl)) (pgs_cons (pg_name (i := 3) nd rfl (Or.inl rfl)) pgs_nil))) pgs_nil)))
      (fun _ _ _ _ _ => pts_one (pt_cmp (pc_din (hu_of hr) (pv 1) (pv 2)))) (fun _ _ _ _ _ => pv 1)))), ?_⟩
    obtain ⟨tvs, to, t1, t2⟩ := hta
    have htvl := t2.len
    refine ⟨_, rfl, ta, _, rfl, .inl (.inr ⟨to, t1⟩), fun D hD => ?_⟩
    refine lc_it (walk_enum (K := K) (a := ta) (xs := tvs)) (fun i H' => Same H H' ∧ H' D = some (.lst (((told.zipIdx.take i).foldl faS []).map V.int))) ⟨same_upd (Same.refl H) hD, upd_same⟩ (fun i H' _ p => .inl (.inr ⟨to, p.1 _ _ t1⟩)) ?_ ?_
    · rintro i x H1 H2 hi ⟨s1, h1⟩ ⟨Tt, x1, x2, rfl, hT, rfl, e1, e2⟩
      obtain rfl := Option.some.inj e1
      have e2 : tvs[i]? = some x2 := e2
      obtain ⟨b, hb⟩ : ∃ b, told[i]? = some b := ⟨told[i]'(by omega), List.getElem?_eq_getElem (by omega)⟩
      obtain ⟨ba, rfl, bd, k1, k2⟩ := t2.at_ i x2 b e2 hb
      have s2 := same_upd (o := .tup [V.int (i : Nat), .ref ba]) s1 hT
      have h2 : upd H1 Tt (.tup [V.int (i : Nat), .ref ba]) D = some (.lst (((told.zipIdx.take i).foldl faS []).map V.int)) := (upd_ne (ne_of_none h1 hT)).trans h1
      have hz : told.zipIdx[i]? = some (b, i) := by
        rw [List.getElem?_zipIdx, hb, Nat.zero_add]
        rfl
      refine ⟨Tt, [.int (i : Nat), .ref ba], rfl, sqt_new, rfl, _, _, rfl, _, _, rfl, ba, _, rfl, sqt_same s2 k1, rfl, _, _, rfl, _, _, rfl, rfl, rfl, ?_⟩
      have dg := (k2.same s2).vec.dget (i : Int)
      have hsome : ((vget b.1 (i : Int)).map V.int).isSome = b.1.any fun p => decide (p.1 = (i : Int)) := by rw [Option.isSome_map, ← any_vget]
      refine ⟨rfl, _, rfl, _, rfl, bd, _, rfl, dg, _, rfl, ?_⟩
      rw [hsome]
      have hl := fa_len (told.zipIdx.take i) []
      have hl2 : (told.zipIdx.take i).length ≤ i := by rw [List.length_take]; omega
      cases hany : b.1.any fun p => decide (p.1 = (i : Int)) with
      | false =>
        refine iteF' rfl ⟨s2, ?_⟩
        rw [take_succ_get hz, fa_snoc]
        unfold faS at h2 ⊢
        rw [hany]
        exact h2
      | true =>
        refine iteT' rfl ⟨_, rfl, _, h2, ?_, ?_, ?_⟩
        · rw [List.length_map, sizeLine_eq]
          rw [List.length_nil] at hl
          omega
        · exact Same.updn s2 hD
        · rw [take_succ_get hz, fa_snoc, upd_same]
          unfold faS
          rw [hany, if_pos rfl, List.map_append]
          rfl
    · rintro H1 ⟨s1, h1⟩
      have eT : told.zipIdx.take tvs.length = told.zipIdx := List.take_of_length_le (by rw [List.length_zipIdx]; omega)
      rw [eT] at h1
      refine .inr ⟨D, _, rfl, h1, True.intro, fun ob => ?_⟩
      exact q D _ (Same.updn s1 hD) ⟨_, ob, upd_same, ls_ints _⟩
abbrev NMt : List Str := ["machine", "told", "anchor", "given", "_", "blend"]
theorem scMovesTold : FnScope NMt ["machine", "told", "anchor"] (defScope sMovesTold) := ⟨rfl, rfl, rfl, by decide +kernel, rfl, by decide +kernel, by decide +kernel⟩
theorem ok_movesTold {f : Addr} {fd : FuncData} (F : Fun K "moves_told" "moves_told" sMovesTold f fd) (T : McT K MCl) (CB : Cal P w K mg base CX0 3 "blended" ["blend", "table"] (spBlended K)) : FnOk P w K mg base CX0 4 f fd ["machine", "told", "anchor"] (spMovesTold P w K SC MCl) := by
  refine F.ok scMovesTold (fun vs H Q E h => ?_) (fun cdv A outer s H vs Q E hr h => ?_)
  · obtain ⟨ma, ta, a, X, ps, M, told, r, rfl, _⟩ := h
    rfl
  · obtain ⟨ma, ta, a, X, ps, M, told, r, rfl, hM, hta, hm, q⟩ := h
    have nd := scMovesTold.nd
    refine ⟨_, pss_one (ps_ret (pe_frz (pe_lc (own := [("given", 3), ("_", 4), ("blend", 5)]) (g := gTup K 3 (gCons (gName 3) (gCons (gName 4) (gCons (gName 5) gNil)))) (tt := tYes) (te := tTup (tCons (tVar 3) (tCons (tCal (spBlended K) E0 (tCons (tVar 5) (tCons (tVar 1) tNil))) tNil))) (by rfl) nd (pi_list (pe_ix (r := rIxL K) ix_list (pe_fld (pv 0) rfl) (pv 2) (fun _ _ => rfl))) (blkOk_by (own := [("given", 3), ("_", 4), ("blend", 5)]) (N := NMt) (sc := defScope sMovesTold) (by decide +kernel))
      (fun _ _ _ _ _ => pg_tup rfl (pgs_cons (pg_name (i := 3) nd rfl (Or.inl rfl)) (pgs_cons (pg_name (i := 4) nd rfl (Or.inl rfl)) (pgs_cons (pg_name (i := 5) nd rfl (Or.inl rfl)) pgs_nil))))
      (fun _ _ _ _ _ => pts_nil) (fun _ _ _ _ _ => pe_tup (pa_cons (pv 3) (pa_cons (pe_cal CB hr pass0 (pa_cons (pv 5) (pa_cons (pv 1) pa_nil))) pa_nil)))))), ?_⟩
    unfold movesTold at hm
    obtain ⟨mv, h1, hm⟩ := bnd_some.mp hm
    obtain ⟨_, h2, hm⟩ := bnd_some.mp hm
    have h2 : mv.length ≤ 2000 := of_decide_eq_true (grd_some.mp h2)
    obtain ⟨hrl, hra⟩ := mapM_get hm
    obtain ⟨dx, hi⟩ := hM.ins
    obtain ⟨v1, v2, v3⟩ := hM.moves
    obtain ⟨hx0, h1⟩ := at_some h1
    have lt := get_lt h1
    obtain ⟨b, hb⟩ : ∃ b, X.es[a.toNat]? = some b := ⟨X.es[a.toNat]'(by omega), List.getElem?_eq_getElem (by omega)⟩
    obtain ⟨xs, ⟨o, hxs⟩, hxl, hxa⟩ := v3 _ b mv hb h1
    refine ⟨_, rfl, ma, MCl, dx, _, _, rfl, hi, T.cl, T.nmv, rfl, _, rfl, X.mv, _, a, .ref b, rfl, rfl, SqL.of v1, atI_of hx0 (by rw [List.getElem?_map, hb]; rfl), b, rfl, ⟨_, .inl (.inr ⟨o, hxs⟩)⟩, fun D hD => ?_⟩
    refine lc_ls (R := RMt K) (walk_list (K := K) (a := b) (xs := xs)) fst_RMt r (by omega) (by rw [sizeLine_eq]; omega) hD (fun H2 s2 => .inl (.inr ⟨o, s2 _ _ hxs⟩)) ?_ ?_
    · rintro i x y H2 H3 Nx hy s2 ⟨rfl, hx⟩ fin
      obtain ⟨e, he⟩ : ∃ e, mv[i]? = some e := ⟨mv[i]'(by have := get_lt hy; omega), List.getElem?_eq_getElem (by have := get_lt hy; omega)⟩
      obtain ⟨y', hy1, hy2⟩ := hra i e he
      rw [hy] at hy2
      obtain rfl := Option.some.inj hy2
      unfold mtE at hy1
      obtain ⟨bl, hbl, hy1⟩ := bnd_some.mp hy1
      obtain rfl := Option.some.inj hy1
      obtain ⟨bb, rfl, g, ba, n1, n2, n3⟩ := hxa i x e hx he
      have n1 := sqt_same s2 n1
      have n2 := sqt_same s2 n2
      have n3 := n3.same s2
      refine ⟨bb, _, rfl, n1, rfl, _, _, rfl, _, _, rfl, _, _, rfl, rfl, ?_⟩
      refine ⟨rfl, _, rfl, _, rfl, _, rfl, ba, ta, e.2.2, told, bl, rfl, n3, tbl_of (hta.wk fst_RBld (Wk.of s2)), hbl, fun u H4 s4 hu => ⟨(by show 2 ≤ sizeLine; decide), fun t ht => ?_⟩⟩
      have s5 := same_upd (o := .tup [V.ref g, .ref u]) (Same.refl H4) ht
      exact fin _ _ (Same.trans s4 s5) ⟨t, g, u, rfl, sqt_new, sqt_same (Same.trans s4 s5) n2, hu.same s5⟩
    · intro H2 us s2 hus hls
      refine .inr ⟨D, _, rfl, hus, True.intro, fun ob => ?_⟩
      exact q D _ (Same.updn s2 hD) ⟨us, ob, upd_same, hls.fch fst_RMt (fch_upd (Fch.refl _) hus True.intro)⟩
end
end FC
set_option Elab.async false
set_option linter.all false
set_option maxRecDepth 100000
set_option maxHeartbeats 4000000
/-! goes_evenly. -/
namespace FC
open PySem PySem.Spec PyProof.Rows L2
/-- the truth of a dict, held still or not -/
theorem tru_rd {X : Cx} : TruR X (fun x H Q => ∃ a kvs, x = .ref a ∧ Rd H a (.dK kvs) ∧ Q (!kvs.isEmpty) H) := by
  intro pins s σ H x v Q I rx h
  obtain ⟨p, kvs, rfl, hx, q⟩ := h
  cases rx
  have hl := line63
  obtain ⟨hz, hS, vs, r, m⟩ := dk_rd I.hok hx
  have hlen : kvs.length = vs.length := Paired.length r
  exact wpAny_truthy_dict hS m (by omega) ⟨H, I.tok _, by rw [isEmpty_kv r]; exact q⟩
def spGoes (K : PySem.W.Frag) : Sp := fun vs H Q _ => ∃ (la : Addr) (m : Nat) (line : List MvT) (b : Bool), vs = [.ref la, .int (m : Nat)] ∧ FL (RMt K) H la line ∧ m ≤ 1000 ∧ line.length < 100000 ∧ goesEvenly line m (line.length - 2 * m) 0 = some b ∧ ∀ H', Same H H' → Q (.bl b) H'
section
variable {P : Program} {w : World} {K : PySem.W.Frag} {mg : Str → Option Value} {base : Heap}
abbrev NGe : List Str := ["line", "modulus", "number", "low", "middle", "high", "one", "two", "three", "bend", "_"]
theorem scGoes : FnScope NGe ["line", "modulus"] (defScope sGoesEvenly) := ⟨rfl, rfl, rfl, by decide +kernel, rfl, by decide +kernel, by decide +kernel⟩
theorem ok_goes {f : Addr} {fd : FuncData} (F : Fun K "goes_evenly" "goes_evenly" sGoesEvenly f fd) (B : Blt mg) (mZ : mg "zip" = none) (CB : Cal P w K mg base CX0 3 "blended" ["blend", "table"] (spBlended K)) : FnOk P w K mg base CX0 4 f fd ["line", "modulus"] (spGoes K) := by
  refine F.ok scGoes (fun vs H Q E h => ?_) (fun cdv A outer s H vs Q E hr h => ?_)
  · obtain ⟨la, m, line, b, rfl, _⟩ := h
    rfl
  · obtain ⟨la, m, line, b, rfl, hla, hm1, hll, hm, q⟩ := h
    have nd := scGoes.nd
    refine ⟨_, pss_cons (ps_for PassesOwn.never rfl (pi_range1 (by rfl) B.range (pa_cons (pe_op op_sub (pe_callB call_len (by rfl) B.len PySem.boot_len (pa_cons (pv 0) pa_nil)) (pe_op op_mulW pe_int (pv 1))) pa_nil)) (pg_name (i := 2) nd rfl (Or.inl rfl))
        (pss_cons (ps_par3 (i := 3) (j := 4) (l := 5) (by rfl) nd rfl rfl rfl (by decide) (by decide) (by decide) rfl rfl rfl (pa_cons (pe_ix (r := rIxL K) ix_list (pv 0) (pv 2) (fun _ _ => rfl)) (pa_cons (pe_ix (r := rIxL K) ix_list (pv 0) (pe_op op_add (pv 2) (pv 1)) (fun _ _ => rfl)) (pa_cons (pe_ix (r := rIxL K) ix_list (pv 0) (pe_op op_add (pv 2) (pe_op op_mulW pe_int (pv 1))) (fun _ _ => rfl)) pa_nil))) (by rfl))
        (pss_cons (ps_for PassesOwn.never rfl (pi_zip3 (by rfl) mZ (pa_cons (pe_ix (r := rIxT K) ix_tup (pv 3) pe_int (fun _ _ => rfl)) (pa_cons (pe_ix (r := rIxT K) ix_tup (pv 4) pe_int (fun _ _ => rfl)) (pa_cons (pe_ix (r := rIxT K) ix_tup (pv 5) pe_int (fun _ _ => rfl)) pa_nil)))) (pg_tup rfl (pgs_cons (pg_name (i := 6) nd rfl (Or.inl rfl)) (pgs_cons (pg_name (i := 7) nd rfl (Or.inl rfl)) (pgs_cons (pg_name (i := 8) nd rfl (Or.inl rfl)) pgs_nil))))
          (pss_one (ps_if (pt_cmp (pc_neI (pe_op op_add (pv 6) (pv 8)) (pe_op op_mulW pe_int (pv 7)))) (pss_one (ps_ret pe_bl)) pss_nil)))
        (pss_cons (ps_asg (pe_cal CB hr pass0 (pa_cons (pe_tup (pa_cons (pe_frzN (pe_disp (pps_cons pe_int pe_int (pps_cons pe_int (pe_un un_neg pe_int) (pps_cons pe_int pe_int pps_nil))) rfl rfl (by simp) (by decide))) (pa_cons pe_int pa_nil))) (pa_cons (pe_tup (pa_cons (pe_ix (r := rIxT K) ix_tup (pv 3) pe_int (fun _ _ => rfl)) (pa_cons (pe_ix (r := rIxT K) ix_tup (pv 4) pe_int (fun _ _ => rfl)) (pa_cons (pe_ix (r := rIxT K) ix_tup (pv 5) pe_int (fun _ _ => rfl)) pa_nil)))) pa_nil))) (pg_tup rfl (pgs_cons (pg_name (i := 9) nd rfl (Or.inl rfl)) (pgs_cons (pg_name (i := 10) nd rfl (Or.inl rfl)) pgs_nil))))
        (pss_one (ps_if (pt_truthR (pv 9) tru_rd (fun _ => rfl)) (pss_one (ps_ret pe_bl)) pss_nil))))))
      (pss_one (ps_ret pe_bl)), ?_⟩
    obtain ⟨lvs, lo, l1, l2⟩ := hla
    have hlvl := l2.len
    have hsz : 200000 < sizeLine := by rw [sizeLine_eq]; omega
    have m2000 : ((m : Nat) : Int).natAbs < 2 ^ 2000 := by
      rw [Int.natAbs_natCast]
      exact Nat.lt_of_le_of_lt hm1 (Nat.lt_of_lt_of_le (by decide : 1000 < 2 ^ 10) (Nat.pow_le_pow_right (by decide) (by decide)))
    have hS : ∀ {G : Hp}, Same H G → SqL K G la lvs := fun s => .inl (.inr ⟨lo, s _ _ l1⟩)
    have en : (((lvs.length : Nat) : Int) - 2 * (m : Int)).toNat = line.length - 2 * m := by clear m2000; omega
    refine ⟨_, rfl, _, _, rfl, .inl ⟨_, hS (Same.refl H), rfl⟩, _, rfl, 2, (m : Int), rfl, rfl, wide_mul two2000 m2000 (by decide) (by decide) (by decide), _, _, rfl, rfl, _, rfl, by clear m2000; omega, by clear m2000; omega, ?_⟩
    refine for_it (walk_range (lo := 0) (n := (((lvs.length : Nat) : Int) - 2 * (m : Int)).toNat)) (fun i σ G => ∃ (y2 y3 y4 y5 y6 y7 y8 y9 y10 : Option V), σ = [some (.ref la), some (.int (m : Nat)), y2, y3, y4, y5, y6, y7, y8, y9, y10] ∧ Same H G ∧ goesEvenly line m (line.length - 2 * m - i) i = some b)
      ⟨none, none, none, none, none, none, none, none, none, rfl, Same.refl H, hm⟩ (fun _ _ _ _ _ => True.intro) ?_ ?_
    · rintro i x σ G1 G2 hi ⟨y2, y3, y4, y5, y6, y7, y8, y9, y10, rfl, sG, hm⟩ ⟨rfl, rfl⟩
      have e0 : (0 : Int) + (i : Int) = i := Int.zero_add _
      show gName 2 (V.int (0 + (i : Int))) _ _ _
      rw [e0]
      rw [en] at hi
      have ei : line.length - 2 * m - i = (line.length - 2 * m - (i + 1)) + 1 := by clear m2000; omega
      rw [ei] at hm
      unfold goesEvenly at hm
      obtain ⟨low, h1, hm⟩ := bnd_some.mp hm
      obtain ⟨mid, h2, hm⟩ := bnd_some.mp hm
      obtain ⟨high, h3, hm⟩ := bnd_some.mp hm
      obtain ⟨_, hg, hm⟩ := bnd_some.mp hm
      have hg := grd_some.mp hg
      rw [Bool.and_eq_true, Bool.and_eq_true, List.all_eq_true, List.all_eq_true, List.all_eq_true] at hg
      obtain ⟨v0, hv0, t0, g0, b0, rfl, p0, q0, r0⟩ := l2.get h1
      obtain ⟨v1, hv1, t1, g1, b1, rfl, p1, q1, r1⟩ := l2.get h2
      obtain ⟨v2, hv2, t2, g2, b2, rfl, p2, q2, r2⟩ := l2.get h3
      refine ⟨_, rfl, _, rfl, la, _, (i : Int), .ref t0, rfl, rfl, hS sG, atI_nat hv0, _, rfl, _, rfl, _, rfl, (i : Int), (m : Int), rfl, rfl, la, _, ((i : Int) + (m : Int)), .ref t1, rfl, rfl, hS sG, atI_nat (j := i + m) hv1, _, rfl, _, rfl, _, rfl, 2, (m : Int), rfl, rfl, wide_mul two2000 m2000 (by decide) (by decide) (by decide), (i : Int), 2 * (m : Int), rfl, rfl, la, _, ((i : Int) + 2 * (m : Int)), .ref t2, rfl, rfl, hS sG, atI_nat (j := i + 2 * m) hv2, _, _, _, rfl, ?_⟩
      have p0 := sqt_same sG p0
      have p1 := sqt_same sG p1
      have p2 := sqt_same sG p2
      have q0 := sqt_same sG q0
      have q1 := sqt_same sG q1
      have q2 := sqt_same sG q2
      refine ⟨_, rfl, t0, _, 0, .ref g0, rfl, rfl, p0, atI_nat (j := 0) rfl, _, rfl, t1, _, 0, .ref g1, rfl, rfl, p1, atI_nat (j := 0) rfl, _, rfl, t2, _, 0, .ref g2, rfl, rfl, p2, atI_nat (j := 0) rfl, g0, g1, g2, _, _, _, rfl, q0, q1, q2, ?_⟩
      refine for_it (walk_3 (K := K) (a := g0) (b := g1) (c := g2) (xs := low.1.map V.int) (ys := mid.1.map V.int) (zs := high.1.map V.int)) (fun j σ G => ∃ (y6 y7 y8 : Option V), σ = [some (.ref la), some (.int (m : Nat)), some (.int (i : Nat)), some (.ref t0), some (.ref t1), some (.ref t2), y6, y7, y8, y9, y10] ∧ Same G2 G ∧ ∀ (k : Nat) (a c d : Int), k < j → low.1[k]? = some a → mid.1[k]? = some c → high.1[k]? = some d → a + d = 2 * c)
        ⟨y6, y7, y8, rfl, Same.refl G2, fun k _ _ _ h => absurd h (Nat.not_lt_zero k)⟩ (fun j σ G _ ⟨_, _, _, _, s, _⟩ => ⟨sqt_same s q0, sqt_same s q1, sqt_same s q2⟩) ?_ ?_
      · rintro j x σ G3 G4 hj ⟨y6, y7, y8, rfl, s3, hfine⟩ ⟨Tt, x1, x2, x3, rfl, hT, rfl, e1, e2, e3⟩
        rw [List.getElem?_map] at e1 e2 e3
        obtain ⟨a, ha, rfl⟩ := Option.map_eq_some_iff.mp e1
        obtain ⟨c, hc, rfl⟩ := Option.map_eq_some_iff.mp e2
        obtain ⟨d, hd, rfl⟩ := Option.map_eq_some_iff.mp e3
        have s4 := same_upd (o := .tup [V.int a, .int c, .int d]) s3 hT
        refine ⟨Tt, [.int a, .int c, .int d], rfl, sqt_new, rfl, _, _, rfl, _, _, rfl, _, _, rfl, rfl, ?_⟩
        refine ⟨_, rfl, _, rfl, a, d, rfl, rfl, _, rfl, 2, c, rfl, rfl, wide_mul two2000 (sm_lt (hg.1.2 c (List.mem_of_getElem? hc))) (by decide) (by decide) (by decide), a + d, 2 * c, rfl, rfl, _, rfl, ?_⟩
        by_cases he : a + d = 2 * c
        · refine iteF' (by simp [he]) ?_
          refine ⟨_, _, _, rfl, s4, fun k a' c' d' hk h4 h5 h6 => ?_⟩
          by_cases hkj : k = j
          · subst hkj
            rw [ha] at h4
            rw [hc] at h5
            rw [hd] at h6
            rw [← Option.some.inj h4, ← Option.some.inj h5, ← Option.some.inj h6]
            exact he
          · exact hfine k a' c' d' (by clear m2000; omega) h4 h5 h6
        · refine iteT' (by simp [he]) ?_
          have hb : bends low.1 mid.1 high.1 = true := by
            unfold bends
            rw [List.any_eq_true]
            refine ⟨(a, (c, d)), List.mem_of_getElem? (i := j) ?_, by simp [he]⟩
            rw [List.getElem?_zip_eq_some]
            exact ⟨ha, by rw [List.getElem?_zip_eq_some]; exact ⟨hc, hd⟩⟩
          rw [hb, if_pos rfl] at hm
          cases Option.some.inj hm
          exact q _ (Same.trans sG s4)
      · rintro σ G3 ⟨y6, y7, y8, rfl, s3, hfine⟩
        have hb : bends low.1 mid.1 high.1 = false := by
          cases hb : bends low.1 mid.1 high.1 with
          | false => rfl
          | true =>
            unfold bends at hb
            rw [List.any_eq_true] at hb
            obtain ⟨z, hz, hn⟩ := hb
            obtain ⟨k, hk⟩ := List.getElem?_of_mem hz
            rw [List.getElem?_zip_eq_some] at hk
            obtain ⟨k1, k2⟩ := hk
            rw [List.getElem?_zip_eq_some] at k2
            have l5 := get_lt k1
            have l6 := get_lt k2.1
            have l7 := get_lt k2.2
            have := hfine k z.1 z.2.1 z.2.2 (by rw [List.length_map, List.length_map, List.length_map]; clear m2000; omega) k1 k2.1 k2.2
            simp [this] at hn
        rw [hb, if_neg Bool.false_ne_true] at hm
        obtain ⟨r, hr', hm⟩ := bnd_some.mp hm
        have sG3 := Same.trans sG s3
        intro p hp
        refine ⟨2, rfl, upd_same, [(.inl 0, .int 1), (.inl 1, .int (-2)), (.inl 2, .int 1)], rfl, (by show 3 ≤ 15; decide), .inr ⟨p, _, rfl, upd_same, True.intro, fun o => ?_⟩⟩
        rw [upd_upd, upd_upd]
        have s5 := same_upd (o := .frz o (.dK (mergeK [] [(Sum.inl 0, V.int 1), (Sum.inl 1, V.int (-2)), (Sum.inl 2, V.int 1)]))) (Same.refl G3) hp
        have v5 : VecF (upd G3 p (.frz o (.dK (mergeK [] [(Sum.inl 0, V.int 1), (Sum.inl 1, V.int (-2)), (Sum.inl 2, V.int 1)])))) p [(0, 1), (1, -2), (2, 1)] := ⟨⟨o, upd_same⟩, by unfold Dst; decide⟩
        generalize upd G3 p (.frz o (.dK (mergeK [] [(Sum.inl 0, V.int 1), (Sum.inl 1, V.int (-2)), (Sum.inl 2, V.int 1)]))) = G5 at s5 v5 ⊢
        refine ⟨(by show 2 ≤ sizeLine; decide), fun w1 nw1 => ?_⟩
        have s6 := same_upd (o := .tup [V.ref p, .int 1]) (Same.refl G5) nw1
        have bl6 : BldAt K (upd G5 w1 (.tup [V.ref p, .int 1])) w1 ([(0, 1), (1, -2), (2, 1)], 1) := ⟨p, sqt_new, v5.same s6⟩
        generalize upd G5 w1 (.tup [V.ref p, .int 1]) = G6 at s6 bl6 ⊢
        have s36 := Same.trans s3 (Same.trans s5 s6)
        refine ⟨_, rfl, t0, _, 1, .ref b0, rfl, rfl, sqt_same s36 p0, atI_nat (j := 1) rfl, _, rfl, t1, _, 1, .ref b1, rfl, rfl, sqt_same s36 p1, atI_nat (j := 1) rfl, _, rfl, t2, _, 1, .ref b2, rfl, rfl, sqt_same s36 p2, atI_nat (j := 1) rfl, (by show 3 ≤ sizeLine; decide), fun w2 nw2 => ?_⟩
        have s7 := same_upd (o := .tup [V.ref b0, .ref b1, .ref b2]) (Same.refl G6) nw2
        have sG7 := Same.trans sG (Same.trans s36 s7)
        have tb7 : TblAt K (upd G6 w2 (.tup [V.ref b0, .ref b1, .ref b2])) w2 [low.2, mid.2, high.2] := by
          refine ⟨_, .inr sqt_new, fun k bb hk => ?_⟩
          match k, hk with
          | 0, hk => exact ⟨b0, rfl, by rw [← Option.some.inj hk]; exact r0.same sG7⟩
          | 1, hk => exact ⟨b1, rfl, by rw [← Option.some.inj hk]; exact r1.same sG7⟩
          | 2, hk => exact ⟨b2, rfl, by rw [← Option.some.inj hk]; exact r2.same sG7⟩
          | k + 3, hk => simp at hk
        refine ⟨w1, w2, ([(0, 1), (1, -2), (2, 1)], 1), [low.2, mid.2, high.2], r, rfl, bl6.same s7, tb7, hr', fun u G8 s8 ⟨dd, hu1, ⟨od, hd⟩, hu3⟩ => ?_⟩
        refine ⟨u, _, rfl, hu1, rfl, _, _, rfl, _, _, rfl, rfl, ?_⟩
        refine ⟨_, rfl, dd, kvs r.1, rfl, .inr ⟨od, hd⟩, ?_⟩
        have eE : (kvs r.1).isEmpty = r.1.isEmpty := by rw [List.isEmpty_map]
        rw [eE]
        have sG8 := Same.trans sG7 s8
        cases hE : r.1.isEmpty with
        | true =>
          rw [hE, if_pos rfl] at hm
          refine iteF' rfl ?_
          exact ⟨_, _, _, _, _, _, _, _, _, rfl, sG8, hm⟩
        | false =>
          rw [hE, if_neg Bool.false_ne_true] at hm
          cases Option.some.inj hm
          refine iteT' rfl ?_
          exact q _ sG8
    · rintro σ G1 ⟨y2, y3, y4, y5, y6, y7, y8, y9, y10, rfl, sG, hm⟩
      rw [en, Nat.sub_self] at hm
      unfold goesEvenly at hm
      cases Option.some.inj hm
      exact q _ sG
end
end FC
set_option Elab.async false
set_option linter.all false
set_option maxRecDepth 100000
set_option maxHeartbeats 4000000
/-! is_even, modulus_of. -/
namespace FC
open PySem PySem.Spec PyProof.Rows L2
/-! ### lines compared -/
def cdata (l : CLine) : PyData := .tuple (l.map fun q => .tuple [.int q.1, .int q.2])
theorem cl_dp {K : PySem.W.Frag} {H : Hp} : ∀ {vs : List V} {l : CLine}, Ls (RP K) H vs l → DpAll K H vs (l.map fun q => .tuple [.int q.1, .int q.2])
  | [], [], _ => .nil
  | [], _ :: _, h => by have := h.len; simp at this
  | _ :: _, [], h => by have := h.len; simp at this
  | v :: vs, q :: l, h => by
    obtain ⟨t, rfl, ht⟩ := h.at_ 0 v q rfl rfl
    exact .cons (.tup ht (.cons (.int _) (.cons (.int _) .nil))) (cl_dp ⟨by have := h.len; simpa using this, fun i u x e1 e2 => h.at_ (i + 1) u x (by simpa using e1) (by simpa using e2)⟩)
theorem ft_dp {K : PySem.W.Frag} {H : Hp} {a : Addr} {l : CLine} (h : FT K (RP K) H a l) : Dp K H (.ref a) (cdata l) := by
  obtain ⟨vs, h1, h2⟩ := h
  exact .tup h1 (cl_dp h2)
theorem layAll : ∀ {ds : List PyData}, (∀ d ∈ ds, d.canLay0 = true) → PyData.canLayAll0 ds = true
  | [], _ => rfl
  | d :: r, h => by
    show (d.canLay0 && PyData.canLayAll0 r) = true
    rw [h d (by simp), layAll fun z hz => h z (List.mem_cons_of_mem _ hz)]
    rfl
theorem depAll {n : Nat} : ∀ {ds : List PyData}, (∀ d ∈ ds, d.depth ≤ n) → PyData.depthAll ds ≤ n
  | [], _ => Nat.zero_le _
  | d :: r, h => by
    show max d.depth (PyData.depthAll r) ≤ n
    have h1 := h d (by simp)
    have h2 := depAll (n := n) fun z hz => h z (List.mem_cons_of_mem _ hz)
    omega
theorem cd_shaped (l : CLine) : SeqAt.shaped (cdata l) = true := by
  show (PyData.canLayAll0 (l.map fun q => PyData.tuple [.int q.1, .int q.2]) && decide (PyData.depthAll (l.map fun q => PyData.tuple [.int q.1, .int q.2]) + 1 ≤ 64)) = true
  rw [layAll fun d hd => by
    obtain ⟨q, _, rfl⟩ := List.mem_map.mp hd
    rfl]
  have := depAll (n := 1) (ds := l.map fun q => PyData.tuple [.int q.1, .int q.2]) fun d hd => by
    obtain ⟨q, _, rfl⟩ := List.mem_map.mp hd
    exact Nat.le_refl _
  rw [decide_eq_true (by omega)]
  rfl
theorem cd_eqv : ∀ (l m : CLine), PyData.eqv (cdata l) (cdata m) = decide (l = m)
  | [], [] => rfl
  | [], _ :: _ => rfl
  | _ :: _, [] => rfl
  | p :: l, q :: m => by
    have ih := cd_eqv l m
    show ((p.1 == q.1 && (p.2 == q.2 && true)) && PyData.eqv (cdata l) (cdata m)) = _
    rw [ih, Bool.and_true]
    by_cases h1 : p.1 = q.1 <;> by_cases h2 : p.2 = q.2 <;> by_cases h3 : l = m
    all_goals simp [h1, h2, h3, Prod.ext_iff]
theorem rep_len (l : CLine) : ∀ n, (rep l n).length = l.length * n
  | 0 => rfl
  | n + 1 => by
    show (l ++ rep l n).length = _
    rw [List.length_append, rep_len l n, Nat.mul_succ, Nat.add_comm]
theorem Ls.cat {α : Type} {R : Hp → V → α → Prop} {H : Hp} {us ws : List V} {l m : List α} (h : Ls R H us l) (k : Ls R H ws m) : Ls R H (us ++ ws) (l ++ m) := by
  refine ⟨by rw [List.length_append, List.length_append, h.len, k.len], fun i v x e1 e2 => ?_⟩
  have hl := h.len
  by_cases hi : i < us.length
  · rw [List.getElem?_append_left hi] at e1
    rw [List.getElem?_append_left (by omega)] at e2
    exact h.at_ i v x e1 e2
  · rw [List.getElem?_append_right (by omega)] at e1
    rw [List.getElem?_append_right (by omega), ← hl] at e2
    exact k.at_ _ v x e1 e2
theorem ls_rep {K : PySem.W.Frag} {H : Hp} {us : List V} {l : CLine} (h : Ls (RP K) H us l) : ∀ n, Ls (RP K) H (List.replicate n us).flatten (rep l n)
  | 0 => .nil
  | n + 1 => by
    rw [List.replicate_succ, List.flatten_cons]
    exact h.cat (ls_rep h n)
theorem Ls.take {α : Type} {R : Hp → V → α → Prop} {H : Hp} {us : List V} {l : List α} (h : Ls R H us l) (n : Nat) : Ls R H (us.take n) (l.take n) := ⟨by rw [List.length_take, List.length_take, h.len], fun i v x e1 e2 => h.at_ i v x (take_get e1) (take_get e2)⟩
def rSlN (K : PySem.W.Frag) : V → Option Int → Option Int → Hp → VK → Prop := fun x lo hi H Q => ∃ a xs, x = .ref a ∧ SqT K H a xs ∧ ∀ p H', Same H H' → SqT K H' p (cutV xs lo hi) → Q (.ref p) H'
theorem sl_tupN {X : Cx} : SlR X (rSlN X.K) := by
  intro pins s σ H x v vl vu lo hi sl Q I rx hs pl pu h
  obtain ⟨a, xs, hx, hT, q⟩ := h
  refine sl_tupA pins s σ H x v vl vu lo hi sl Q I rx hs pl pu ⟨a, xs, hx, hT, fun ⟨h1, h2⟩ => q a H (Same.refl H) ?_, fun _ p hp => q p _ (same_upd (Same.refl H) hp) sqt_new⟩
  unfold cutV
  rw [h1, h2, List.drop_zero, Nat.sub_zero, List.take_length]
  exact hT
def rRepN (K : PySem.W.Frag) : R2 := fun x y H Q => ∃ l k xs, x = .ref l ∧ y = .int k ∧ SqT K H l xs ∧ xs ≠ [] ∧ 0 ≤ k ∧ k ≤ 1000 ∧ xs.length ≤ 1000 ∧ ∀ p H', Same H H' → SqT K H' p (List.replicate k.toNat xs).flatten → Q (.ref p) H'
theorem op_repN {X : Cx} : OpR X (binaryOp .Mult) (rRepN X.K) := by
  intro pins s σ H x y v u Q I rx ry h
  obtain ⟨l, k, xs, hx, hy, hT, hne, h1, h2, hz, q⟩ := h
  refine op_repA pins s σ H x y v u Q I rx ry ⟨l, k, xs, hx, hy, hT, hne, h1, h2, hz, fun e => q l H (Same.refl H) ?_, fun _ p hp => q p _ (same_upd (Same.refl H) hp) sqt_new⟩
  subst e
  simpa using hT
def spIsEven (K : PySem.W.Frag) (GCl : Addr) : Sp := fun vs H Q _ => ∃ (ga va : Addr) (m : Nat) (G : Grp) (moves : List (List MvT)) (b : Bool), vs = [.ref ga, .ref va, .int (m : Nat)] ∧ GrpAt K GCl H ga G ∧ FL (RL (RMt K)) H va moves ∧ isEven G moves m = some b ∧ ∀ H', Same H H' → Q (.bl b) H'
section
variable {P : Program} {w : World} {K : PySem.W.Frag} {mg : Str → Option Value} {base : Heap} {GCl : Addr}
abbrev NIe : List Str := ["groups", "moves", "modulus", "line"]
theorem scIsEven : FnScope NIe ["groups", "moves", "modulus"] (defScope sIsEven) := ⟨rfl, rfl, rfl, by decide +kernel, rfl, by decide +kernel, by decide +kernel⟩
theorem ok_isEven {f : Addr} {fd : FuncData} (F : Fun K "is_even" "is_even" sIsEven f fd) (B : Blt mg) (mA : mg "all" = none) (TG : GrT K GCl) (CG : Cal P w K mg base CX0 4 "goes_evenly" ["line", "modulus"] (spGoes K)) : FnOk P w K mg base CX0 5 f fd ["groups", "moves", "modulus"] (spIsEven K GCl) := by
  refine F.ok scIsEven (fun vs H Q E h => ?_) (fun cdv A outer s H vs Q E hr h => ?_)
  · obtain ⟨ga, va, m, G, moves, b, rfl, _⟩ := h
    rfl
  · obtain ⟨ga, va, m, G, moves, b, rfl, hG, hva, hm, q⟩ := h
    have nd := scIsEven.nd
    refine ⟨_, pss_cons (ps_for PassesOwn.never rfl (pi_list (pe_fld (pv 0) rfl)) (pg_name (i := 3) nd rfl (Or.inl rfl))
        (pss_one (ps_if (pt_cmpR (op_neD hr.units) (pv 3) (pe_op op_repN (pe_slice sl_tupN (pv 3) po_none (po_some (pv 2))) (pe_op op_fdivA (pe_callB call_len (by rfl) B.len PySem.boot_len (pa_cons (pv 3) pa_nil)) (pv 2))) (nomark _)) (pss_one (ps_ret pe_bl)) pss_nil)))
      (pss_one (ps_ret (pe_callB (cr_all (by rfl)) (by rfl) mA (by decide +kernel) (pa_cons (pe_lc (own := [("line", 3)]) (g := gName 3) (tt := tYes) (te := tCal (spGoes K) E0 (tCons (tVar 3) (tCons (tVar 2) tNil))) (by rfl) nd (pi_list (pv 1)) (blkOk_by (own := [("line", 3)]) (N := NIe) (sc := defScope sIsEven) (by decide +kernel)) (fun _ _ _ _ _ => pg_name (i := 3) nd rfl (Or.inl rfl))
            (fun _ _ _ _ _ => pts_nil) (fun _ _ _ _ _ => pe_cal CG hr pass0 (pa_cons (pv 3) (pa_cons (pv 2) pa_nil)))) pa_nil)))), ?_⟩
    unfold isEven at hm
    obtain ⟨_, hg, hm⟩ := bnd_some.mp hm
    have hg := grd_some.mp hg
    rw [Bool.and_eq_true, Bool.and_eq_true, decide_eq_true_eq, decide_eq_true_eq, List.all_eq_true] at hg
    obtain ⟨hg1, ⟨hg2, hg3⟩, hg4⟩ := hg
    obtain ⟨dxg, fa, oa, ca, aa, g1, g2, g3, g4, g5⟩ := hG
    obtain ⟨cvs, co, c1, c2⟩ := g4
    obtain ⟨mvs, mo, v1, v2⟩ := hva
    have hcl := c2.len
    have hvl := v2.len
    have hsz : 200000 < sizeLine := by rw [sizeLine_eq]; omega
    refine ⟨_, rfl, ga, GCl, dxg, _, _, rfl, g1, TG.cl, TG.nc, rfl, ca, rfl, ⟨_, .inl (.inr ⟨co, c1⟩)⟩, ?_⟩
    refine for_it (walk_list (K := K) (a := ca) (xs := cvs)) (fun i σ G' => ∃ y3 : Option V, σ = [some (.ref ga), some (.ref va), some (.int (m : Nat)), y3] ∧ Same H G' ∧ ∀ l ∈ G.counts.take i, l = rep (l.take m) (l.length / m))
      ⟨none, rfl, Same.refl H, fun l hl => by rw [List.take_zero] at hl; cases hl⟩ (fun i σ G' _ ⟨_, _, s, _⟩ => .inl (.inr ⟨co, s _ _ c1⟩)) ?_ ?_
    · rintro i x σ G1 G2 hi ⟨y3, rfl, sG, hfine⟩ ⟨rfl, hx⟩
      obtain ⟨l, hl⟩ : ∃ l, G.counts[i]? = some l := ⟨G.counts[i]'(by omega), List.getElem?_eq_getElem (by omega)⟩
      obtain ⟨lb, rfl, vs, b1, b2⟩ := c2.at_ i x l hx hl
      have hlg := of_decide_eq_true (hg4 l (List.mem_of_getElem? hl))
      have hvsl := b2.len
      have b1 := sqt_same sG b1
      have b2 := b2.wk fst_RP (Wk.of sG)
      refine ⟨_, rfl, _, rfl, _, rfl, (m : Int), rfl, lb, vs, rfl, b1, fun p1 G3 s3 hp1 => ?_⟩
      rw [cutV_to (by omega), Int.toNat_natCast] at hp1
      have b3 := sqt_same s3 b1
      refine ⟨_, rfl, _, _, rfl, .inr ⟨_, b3, rfl⟩, _, rfl, ((vs.length : Nat) : Int), (m : Int), rfl, rfl, ⟨by omega, ?_⟩, p1, _, vs.take m, rfl, rfl, hp1, ?_, ?_, ?_, ?_, fun p2 G4 s4 hp2 => ?_⟩
      · rw [Int.natAbs_natCast]
        exact Nat.lt_of_le_of_lt hg3 (Nat.lt_of_lt_of_le (by decide : 1000 < 2 ^ 10) (Nat.pow_le_pow_right (by decide) (by decide)))
      · intro z
        have := congrArg List.length z
        rw [List.length_take, List.length_nil] at this
        omega
      · rw [Int.fdiv_eq_ediv_of_nonneg _ (by omega)]
        exact Int.ediv_nonneg (by omega) (by omega)
      · rw [Int.fdiv_eq_ediv_of_nonneg _ (by omega)]
        have : ((vs.length : Nat) : Int) / (m : Int) ≤ ((vs.length : Nat) : Int) := Int.ediv_le_self _ (by omega)
        omega
      · rw [List.length_take]
        omega
      · have ek : (((vs.length : Nat) : Int).fdiv (m : Int)).toNat = l.length / m := by
          rw [Int.fdiv_eq_ediv_of_nonneg _ (by omega), hvsl]
          have : ((l.length : Nat) : Int) / ((m : Nat) : Int) = ((l.length / m : Nat) : Int) := rfl
          rw [this, Int.toNat_natCast]
        rw [ek] at hp2
        have s24 := Same.trans s3 s4
        have b4 := b2.wk fst_RP (Wk.of s24)
        refine ⟨cdata l, cdata (rep (l.take m) (l.length / m)), ft_dp ⟨vs, sqt_same s24 b1, b4⟩, ft_dp ⟨_, hp2, ls_rep (b4.take m) _⟩, cd_shaped _, cd_shaped _, _, rfl, ?_⟩
        rw [cd_eqv]
        by_cases he : l = rep (l.take m) (l.length / m)
        · rw [decide_eq_true he]
          refine iteF' rfl ?_
          refine ⟨_, rfl, Same.trans sG s24, fun l2 hl2 => ?_⟩
          rw [take_succ_get hl] at hl2
          rcases List.mem_append.mp hl2 with h | h
          · exact hfine l2 h
          · rw [List.mem_singleton.mp h]
            exact he
        · rw [decide_eq_false he]
          refine iteT' rfl ?_
          have hn : (G.counts.all fun l => decide (l = rep (l.take m) (l.length / m))) = false := by
            cases hn : G.counts.all fun l => decide (l = rep (l.take m) (l.length / m)) with
            | false => rfl
            | true => exact absurd (of_decide_eq_true (List.all_eq_true.mp hn l (List.mem_of_getElem? hl))) he
          rw [hn, if_neg Bool.false_ne_true] at hm
          cases Option.some.inj hm
          exact q _ (Same.trans sG s24)
    · rintro σ G1 ⟨y3, rfl, sG, hfine⟩
      have eT : G.counts.take cvs.length = G.counts := List.take_of_length_le (by omega)
      rw [eT] at hfine
      have hn : (G.counts.all fun l => decide (l = rep (l.take m) (l.length / m))) = true := List.all_eq_true.mpr fun l hl => decide_eq_true (hfine l hl)
      rw [hn, if_pos rfl] at hm
      obtain ⟨bs, hbs, hm⟩ := bnd_some.mp hm
      have hm := Option.some.inj hm
      obtain ⟨hbl, hba⟩ := mapM_get hbs
      refine ⟨_, rfl, va, rfl, ⟨_, .inl (.inr ⟨mo, sG _ _ v1⟩)⟩, fun D hD => ?_⟩
      refine lc_ls (R := fun _ v (b : Bool) => v = .bl b) (walk_list (K := K) (a := va) (xs := mvs)) (fun _ _ _ _ _ h => h) bs (by omega) (by omega) hD (fun G2 s2 => .inl (.inr ⟨mo, s2 _ _ (sG _ _ v1)⟩)) ?_ ?_
      · rintro i x y G2 G3 Nx hy s2 ⟨rfl, hx⟩ fin
        obtain ⟨l, hl⟩ : ∃ l, moves[i]? = some l := ⟨moves[i]'(by have := get_lt hy; omega), List.getElem?_eq_getElem (by have := get_lt hy; omega)⟩
        obtain ⟨y', hy1, hy2⟩ := hba i l hl
        rw [hy] at hy2
        obtain rfl := Option.some.inj hy2
        unfold geE at hy1
        obtain ⟨_, hgl, hy1⟩ := bnd_some.mp hy1
        have hgl := of_decide_eq_true (grd_some.mp hgl)
        obtain ⟨lb, rfl, hlb⟩ := v2.at_ i x l hx hl
        exact ⟨rfl, _, rfl, _, rfl, lb, m, l, y, rfl, hlb.wk fst_RMt (Wk.of (Same.trans sG s2)), hg3, hgl, hy1, fun H4 s4 => fin _ _ s4 rfl⟩
      · intro G2 us s2 hus hls
        have eus : us = bs.map V.bl := by
          refine List.ext_getElem? fun i => ?_
          rw [List.getElem?_map]
          cases e : bs[i]? with
          | none =>
            have hl := hls.len
            rw [List.getElem?_eq_none_iff] at e
            show us[i]? = none
            rw [List.getElem?_eq_none_iff]
            omega
          | some x =>
            obtain ⟨v, h1, h2⟩ := hls.get e
            rw [h1, show v = .bl x from h2]
            rfl
        refine ⟨D, bs, rfl, SqL.of (by rw [hus, eus]), ?_⟩
        have := q G2 (Same.trans sG s2)
        rw [← hm] at this
        exact this
end
end FC
set_option Elab.async false
set_option linter.all false
set_option maxRecDepth 100000
set_option maxHeartbeats 4000000
/-! modulus_of. -/
namespace FC
open PySem PySem.Spec PyProof.Rows L2
def spModulusOf (P : Program) (w : World) (K : PySem.W.Frag) (SC MCl GCl : Addr) : Sp := fun vs H Q _ => ∃ (ma ga ta : Addr) (X : MC) (ps : List Stp) (M : Mac) (G : Grp) (told : List Bld) (r : Int), vs = [.ref ma, .ref ga, .ref ta] ∧ MacAt P w K SC MCl H ma X ps M ∧ GrpAt K GCl H ga G ∧ FL (RBld K) H ta told ∧ modulusOf M G told (moduliOf ps).2 = some r ∧ ∀ H', Same H H' → Q (.int r) H'
section
variable {P : Program} {w : World} {K : PySem.W.Frag} {mg : Str → Option Value} {base : Heap} {SC MCl GCl : Addr}
abbrev NMo : List Str := ["machine", "groups", "told", "moves", "modulus", "anchor"]
theorem scModulusOf : FnScope NMo ["machine", "groups", "told"] (defScope sModulusOf) := ⟨rfl, rfl, rfl, by decide +kernel, rfl, by decide +kernel, by decide +kernel⟩
theorem ok_modulusOf {f : Addr} {fd : FuncData} (F : Fun K "modulus_of" "modulus_of" sModulusOf f fd) (B : Blt mg) (T : McT K MCl) (CF : Cal P w K mg base CX0 1 "free_anchors" ["told"] (spFree K)) (CM : Cal P w K mg base CX0 4 "moves_told" ["machine", "told", "anchor"] (spMovesTold P w K SC MCl)) (CE : Cal P w K mg base CX0 5 "is_even" ["groups", "moves", "modulus"] (spIsEven K GCl)) :
    FnOk P w K mg base CX0 6 f fd ["machine", "groups", "told"] (spModulusOf P w K SC MCl GCl) := by
  refine F.ok scModulusOf (fun vs H Q E h => ?_) (fun cdv A outer s H vs Q E hr h => ?_)
  · obtain ⟨ma, ga, ta, X, ps, M, G, told, r, rfl, _⟩ := h
    rfl
  · obtain ⟨ma, ga, ta, X, ps, M, G, told, r, rfl, hM, hG, hta, hm, q⟩ := h
    have nd := scModulusOf.nd
    have hr1 : Room 1 _ := hr.mono (by decide)
    have hr4 : Room 4 _ := hr.mono (by decide)
    refine ⟨_, pss_cons (ps_setLc (i := 3) (own := [("anchor", 5)]) (g := gName 5) (tt := tYes) (te := tCal (spMovesTold P w K SC MCl) E0 (tCons (tVar 0) (tCons (tVar 2) (tCons (tVar 5) tNil)))) (by rfl) nd rfl rfl (sw_true rfl rfl rfl (by decide +kernel)) (pi_list (pe_cal CF hr1 pass0 (pa_cons (pv 2) pa_nil))) (blkOk_by (own := [("anchor", 5)]) (N := NMo) (sc := defScope sModulusOf) (by decide +kernel)) (fun _ _ _ _ _ => pg_name (i := 5) nd rfl (Or.inl rfl))
            (fun _ _ _ _ _ => pts_nil) (fun _ _ _ _ _ => pe_cal CM hr4 pass0 (pa_cons (pv 0) (pa_cons (pv 2) (pa_cons (pv 5) pa_nil)))))
      (pss_cons (ps_frz (ps_for PassesOwn.never rfl (pi_range2 (by rfl) B.range (pa_cons pe_int (pa_cons (pe_fld (pv 0) rfl) pa_nil))) (pg_name (i := 4) nd rfl (Or.inl rfl))
        (pss_one (ps_if (pw_and (pt_cmp (pc_eqI (pe_op op_mod (pe_fld (pv 0) rfl) (pv 4)) pe_int)) (pw_and1 (pt_val (pe_cal CE hr pass0 (pa_cons (pv 1) (pa_cons (pv 3) (pa_cons (pv 4) pa_nil))))))).pt (pss_one (ps_ret (pv 4))) pss_nil))))
      (pss_one (ps_ret (pe_fld (pv 0) rfl)))), ?_⟩
    unfold modulusOf at hm
    obtain ⟨_, hg, hm⟩ := bnd_some.mp hm
    have hg := of_decide_eq_true (grd_some.mp hg)
    obtain ⟨moves, hmv, hm⟩ := bnd_some.mp hm
    obtain ⟨rn, hrn, hm⟩ := bnd_some.mp hm
    have hm := Option.some.inj hm
    obtain ⟨k1, k2, k3⟩ := mm81 hM.ok
    clear k3
    have hX : X.m = (moduliOf ps).2 := hM.modulus
    obtain ⟨dx, hi⟩ := hM.ins
    obtain ⟨hml, hma⟩ := mapM_get hmv
    have hfl : (freeAnchors told).length ≤ told.length := by
      have := fa_len told.zipIdx []
      rw [List.length_zipIdx, List.length_nil, Nat.zero_add] at this
      exact this
    have hsz : 200000 < sizeLine := by rw [sizeLine_eq]; omega
    refine ⟨_, rfl, ta, told, rfl, hta, hg, fun fl H1 s1 hfl1 => ?_⟩
    obtain ⟨fvs, fo, f1, f2⟩ := hfl1
    have hfvl := f2.len
    refine ⟨fl, rfl, ⟨_, .inl (.inr ⟨fo, f1⟩)⟩, fun vl nvl => ?_⟩
    refine lc_ls (R := RL (RMt K)) (walk_list (K := K) (a := fl) (xs := fvs)) (fst_RL fst_RMt) moves (by omega) (by omega) nvl (fun H2 s2 => .inl (.inr ⟨fo, s2 _ _ f1⟩)) ?_ ?_
    · rintro i x y H2 H3 Nx hy s2 ⟨rfl, hx⟩ fin
      obtain ⟨a, ha⟩ : ∃ a, (freeAnchors told)[i]? = some a := ⟨(freeAnchors told)[i]'(by have := get_lt hy; omega), List.getElem?_eq_getElem (by have := get_lt hy; omega)⟩
      obtain ⟨y', hy1, hy2⟩ := hma i a ha
      rw [hy] at hy2
      obtain rfl := Option.some.inj hy2
      have hxa : x = .int a := f2.at_ i x a hx ha
      subst hxa
      have s12 := Same.trans s1 s2
      exact ⟨rfl, _, rfl, _, rfl, _, rfl, ma, ta, a, X, ps, M, told, y, rfl, hM.same s12, hta.wk fst_RBld (Wk.of s12), hy1, fun t H4 s4 ht => fin _ _ s4 ⟨t, rfl, ht⟩⟩
    intro H2 us s2 hus hls
    refine .inr ⟨vl, _, hus, True.intro, fun ov => ?_⟩
    have s3 : Same H (upd H2 vl (.frz ov (.lst us))) := Same.updn (Same.trans s1 s2) (none_same s1 nvl)
    have hv3 : FL (RL (RMt K)) (upd H2 vl (.frz ov (.lst us))) vl moves := ⟨us, ov, upd_same, hls.fch (fst_RL fst_RMt) (fch_upd (Fch.refl _) hus True.intro)⟩
    generalize upd H2 vl (.frz ov (.lst us)) = H3 at s3 hv3 ⊢
    obtain ⟨mn, hmn⟩ : ∃ mn : Nat, (moduliOf ps).2 = (mn : Int) := ⟨(moduliOf ps).2.toNat, by omega⟩
    have e1 : X.m = (mn : Int) := by omega
    rw [hmn, Int.toNat_natCast] at hrn
    refine ⟨_, rfl, ma, MCl, dx, _, _, rfl, s3 _ _ hi, T.cl, T.nm, rfl, 1, X.m, rfl, by omega, ?_⟩
    refine for_it (walk_range (lo := 1) (n := (X.m - 1).toNat)) (fun i σ G' => ∃ y4 : Option V, σ = [some (.ref ma), some (.ref ga), some (.ref ta), some (.ref vl), y4, none] ∧ Same H3 G' ∧ modulusGo G moves mn (mn - 1 - i) (1 + i) = some rn)
      ⟨none, rfl, Same.refl H3, hrn⟩ (fun _ _ _ _ _ => True.intro) ?_ ?_
    · rintro i x σ G1 G2 hi2 ⟨y4, rfl, sG, hgo⟩ ⟨rfl, rfl⟩
      have ei : mn - 1 - i = (mn - 1 - (i + 1)) + 1 := by omega
      rw [ei] at hgo
      unfold modulusGo at hgo
      have ex : ((1 : Int) + (i : Int)) = ((1 + i : Nat) : Int) := by omega
      have em : X.m % ((1 : Int) + (i : Int)) = ((mn % (1 + i) : Nat) : Int) := by rw [e1, ex]; rfl
      have sG3 := Same.trans s3 sG
      refine ⟨_, rfl, ma, MCl, dx, _, _, rfl, sG3 _ _ hi, T.cl, T.nm, rfl, _, rfl, X.m, (1 + (i : Int)), rfl, rfl, by omega, X.m % (1 + (i : Int)), 0, rfl, rfl, _, rfl, ?_⟩
      by_cases hmod : mn % (1 + i) = 0
      · rw [if_pos hmod] at hgo
        obtain ⟨b, hb, hgo⟩ := bnd_some.mp hgo
        refine iteT' (decide_eq_true (by rw [em, hmod]; rfl)) ?_
        refine ⟨_, rfl, _, rfl, _, rfl, ga, vl, 1 + i, G, moves, b, ?_, hG.fch (Fch.of sG3), hv3.wk (fst_RL fst_RMt) (Wk.of sG), hb, fun G4 s4 => ⟨b, rfl, ?_⟩⟩
        · rw [← ex]
        · cases b with
          | true =>
            rw [if_pos rfl] at hgo
            have hgo := Option.some.inj hgo
            refine iteT' rfl ?_
            refine ⟨_, rfl, ?_⟩
            have := q G4 (Same.trans sG3 s4)
            rw [← hm, ← hgo, ← ex] at this
            exact this
          | false =>
            rw [if_neg Bool.false_ne_true] at hgo
            refine iteF' rfl ?_
            exact ⟨_, rfl, Same.trans sG s4, hgo⟩
      · rw [if_neg hmod] at hgo
        refine iteF' (decide_eq_false (by rw [em]; omega)) ?_
        refine iteF' rfl ?_
        exact ⟨_, rfl, sG, hgo⟩
    · rintro σ G1 ⟨y4, rfl, sG, hgo⟩
      have ez : mn - 1 - (X.m - 1).toNat = 0 := by omega
      rw [ez] at hgo
      unfold modulusGo at hgo
      have hgo := Option.some.inj hgo
      have sG3 := Same.trans s3 sG
      refine ⟨_, rfl, ma, MCl, dx, _, _, rfl, sG3 _ _ hi, T.cl, T.nm, rfl, ?_⟩
      have := q G1 sG3
      rw [← hm, ← hgo, ← e1] at this
      exact this
end
end FC
set_option Elab.async false
set_option linter.all false
set_option maxRecDepth 100000
set_option maxHeartbeats 4000000
/-! fraction, with_fractions. -/
namespace FC
open PySem PySem.Spec PyProof.Rows L2
theorem insK_perm (x : Int) : ∀ l : List Int, (insK x l).Perm (x :: l)
  | [] => List.Perm.refl _
  | y :: r => by
    unfold insK
    split
    · exact List.Perm.refl _
    · exact ((insK_perm x r).cons y).trans (List.Perm.swap x y r)
theorem insK_sorted {x : Int} : ∀ {l : List Int}, l.Pairwise (· ≤ ·) → (insK x l).Pairwise (· ≤ ·)
  | [], _ => List.pairwise_singleton _ _
  | y :: r, h => by
    unfold insK
    rw [List.pairwise_cons] at h
    by_cases c : x ≤ y
    · rw [if_pos c, List.pairwise_cons]
      refine ⟨fun z hz => ?_, List.pairwise_cons.mpr h⟩
      rcases List.mem_cons.mp hz with e | e
      · rw [e]; exact c
      · exact Int.le_trans c (h.1 z e)
    · rw [if_neg c, List.pairwise_cons]
      refine ⟨fun z hz => ?_, insK_sorted h.2⟩
      rcases List.mem_cons.mp ((insK_perm x r).mem_iff.mp hz) with e | e
      · rw [e]; omega
      · exact h.1 z e
theorem sortK_perm : ∀ l : List Int, (sortK l).Perm l
  | [] => List.Perm.refl _
  | x :: r => (insK_perm x (sortK r)).trans ((sortK_perm r).cons x)
theorem sortK_sorted : ∀ l : List Int, (sortK l).Pairwise (· ≤ ·)
  | [] => List.Pairwise.nil
  | _ :: r => insK_sorted (sortK_sorted r)
theorem sortK_is {ys l : List Int} (h : ys.Perm l) (s : ys.Pairwise (· ≤ ·)) : ys = sortK l :=
  List.Perm.eq_of_pairwise (fun a b _ _ h1 h2 => Int.le_antisymm h1 h2) s (sortK_sorted l) (h.trans (sortK_perm l).symm)
def RMx (K : PySem.W.Frag) (H : Hp) (v : V) (q : Int × Int × Int) : Prop := ∃ t f, v = .ref t ∧ SqT K H t [.int q.1, .ref f] ∧ SqT K H f [.int q.2.1, .int q.2.2]
theorem fst_RMx {K : PySem.W.Frag} : FSt (RMx K) := fun _ _ _ _ s ⟨t, f, e, h1, h2⟩ => ⟨t, f, e, sqt_wk s h1, sqt_wk s h2⟩
def spFraction (K : PySem.W.Frag) : Sp := fun vs H Q _ => ∃ a b : Int, vs = [.int a, .int b] ∧ 0 < b ∧ b.natAbs < 2 ^ 2000 ∧ ∀ (t : Addr) H', Same H H' → SqT K H' t [.int (ffrac a b).1, .int (ffrac a b).2] → Q (.ref t) H'
def spWithFr (K : PySem.W.Frag) : Sp := fun vs H Q _ => ∃ (a : Addr) (b : Bld), vs = [.ref a] ∧ BldAt K H a b ∧ b.1.length < 64 ∧ 0 < b.2 ∧ b.2.natAbs < 2 ^ 2000 ∧ ∀ (t : Addr) H', Same H H' → FT K (RMx K) H' t (withFractions b) → Q (.ref t) H'
section
variable {P : Program} {w : World} {K : PySem.W.Frag} {mg : Str → Option Value} {base : Heap}
theorem scFraction : FnScope ["top", "bottom", "common"] ["top", "bottom"] (defScope sFraction) := ⟨rfl, rfl, rfl, by decide +kernel, rfl, by decide +kernel, by decide +kernel⟩
theorem ok_fraction {f : Addr} {fd : FuncData} (F : Fun K "fraction" "fraction" sFraction f fd) (mG : mg "gcd" = some (.builtin "math.gcd")) : FnOk P w K mg base CX0 1 f fd ["top", "bottom"] (spFraction K) := by
  refine F.ok scFraction (fun vs H Q E h => ?_) (fun cdv A outer s H vs Q E hr h => ?_)
  · obtain ⟨a, b, rfl, _⟩ := h
    rfl
  · obtain ⟨a, b, rfl, hb, hbb, q⟩ := h
    have nd := scFraction.nd
    refine ⟨_, pss_cons (ps_set (i := 2) nd rfl (Or.inl rfl) (pe_callBfun cr_gcd (by rfl) mG (pa_cons (pv 0) (pa_cons (pv 1) pa_nil))))
      (pss_one (ps_ret (pe_tup (pa_cons (pe_op op_fdivA (pv 0) (pv 2)) (pa_cons (pe_op op_fdivA (pv 1) (pv 2)) pa_nil))))), ?_⟩
    have g0 : 0 < Nat.gcd a.natAbs b.natAbs := Nat.gcd_pos_of_pos_right _ (by clear hbb; omega)
    have g1 : Nat.gcd a.natAbs b.natAbs ≤ b.natAbs := Nat.le_of_dvd (by clear hbb; omega) (Nat.gcd_dvd_right _ _)
    have g2 : ((Nat.gcd a.natAbs b.natAbs : Nat) : Int).natAbs < 2 ^ 9000 := by
      rw [Int.natAbs_natCast]
      exact Nat.lt_of_le_of_lt g1 (Nat.lt_trans hbb (Nat.pow_lt_pow_right (by decide) (by decide)))
    have gp : (0 : Int) < ((Nat.gcd a.natAbs b.natAbs : Nat) : Int) := Int.natCast_pos.mpr g0
    refine ⟨_, rfl, _, rfl, _, _, rfl, ?_⟩
    refine ⟨_, rfl, _, rfl, a, _, rfl, rfl, ⟨Int.ne_of_gt gp, g2⟩, _, rfl, _, rfl, b, _, rfl, rfl, ⟨Int.ne_of_gt gp, g2⟩, (by show 2 ≤ sizeLine; decide), fun t ht => ?_⟩
    refine q t _ (same_upd (Same.refl H) ht) ?_
    have e1 : a.fdiv ((Nat.gcd a.natAbs b.natAbs : Nat) : Int) = (ffrac a b).1 := Int.fdiv_eq_ediv_of_nonneg a (Int.natCast_nonneg _)
    have e2 : b.fdiv ((Nat.gcd a.natAbs b.natAbs : Nat) : Int) = (ffrac a b).2 := Int.fdiv_eq_ediv_of_nonneg b (Int.natCast_nonneg _)
    rw [← e1, ← e2]
    exact sqt_new
abbrev NWf : List Str := ["blend", "parts", "scale", "key"]
theorem scWithFr : FnScope NWf ["blend"] (defScope sWithFractions) := ⟨rfl, rfl, rfl, by decide +kernel, rfl, by decide +kernel, by decide +kernel⟩
theorem ok_withFr {f : Addr} {fd : FuncData} (F : Fun K "with_fractions" "with_fractions" sWithFractions f fd) (B : Blt mg) (mS : mg "sorted" = none) (CF : Cal P w K mg base CX0 1 "fraction" ["top", "bottom"] (spFraction K)) : FnOk P w K mg base CX0 2 f fd ["blend"] (spWithFr K) := by
  refine F.ok scWithFr (fun vs H Q E h => ?_) (fun cdv A outer s H vs Q E hr h => ?_)
  · obtain ⟨a, b, rfl, _⟩ := h
    rfl
  · obtain ⟨a, b, rfl, hb, hbl, h0, hbb, q⟩ := h
    have nd := scWithFr.nd
    refine ⟨_, pss_cons (ps_asg (pv 0) (pg_tup rfl (pgs_cons (pg_name (i := 1) nd rfl (Or.inr rfl)) (pgs_cons (pg_name (i := 2) nd rfl (Or.inr rfl)) pgs_nil))))
      (pss_one (ps_ret (pe_callTy call_tuple_of (by rfl) B.tuple (by decide +kernel) (pa_cons (pe_lc (own := [("key", 3)]) (g := gName 3) (tt := tYes) (te := tTup (tCons (tVar 3) (tCons (tCal (spFraction K) E0 (tCons (tDGet (tVar 1) (tVar 3)) (tCons (tVar 2) tNil))) tNil))) (by rfl) nd (pi_list (pe_callB (call_sortedDI (by rfl)) (by rfl) mS (by decide +kernel) (pa_cons (pv 1) pa_nil))) (blkOk_by (own := [("key", 3)]) (N := NWf) (sc := defScope sWithFractions) (by decide +kernel)) (fun _ _ _ _ _ => pg_name (i := 3) nd rfl (Or.inl rfl))
            (fun _ _ _ _ _ => pts_nil) (fun _ _ _ _ _ => pe_tup (pa_cons (pv 3) (pa_cons (pe_cal CF hr pass0 (pa_cons (pe_dget (hu_of hr) (pv 1) (pv 3) (fun _ _ => rfl)) (pa_cons (pv 2) pa_nil))) pa_nil)))) pa_nil)))), ?_⟩
    obtain ⟨d, hs, hv⟩ := hb
    refine ⟨_, rfl, a, _, rfl, hs, rfl, _, _, rfl, _, _, rfl, rfl, ?_⟩
    refine ⟨_, rfl, d, kvs b.1, vkeys b.1, rfl, .inr hv.1, by unfold vkeys; rw [List.map_map, List.map_map]; rfl, by unfold vkeys; rw [List.length_map]; exact hbl, fun ys p hperm hsorted hp => ?_⟩
    have eys := sortK_is hperm hsorted
    subst eys
    have s1 := same_upd (o := .lst ((sortK (vkeys b.1)).map V.int)) (Same.refl H) hp
    have e1 : upd H p (.lst ((sortK (vkeys b.1)).map V.int)) p = some (.lst ((sortK (vkeys b.1)).map V.int)) := upd_same
    generalize upd H p (.lst ((sortK (vkeys b.1)).map V.int)) = H1 at s1 e1 ⊢
    have hlen : (sortK (vkeys b.1)).length = b.1.length := by rw [(sortK_perm _).length_eq]; unfold vkeys; rw [List.length_map]
    refine ⟨p, rfl, ⟨_, SqL.of e1⟩, fun D hD => ?_⟩
    refine lc_ls (R := RMx K) (walk_list (K := K) (a := p) (xs := (sortK (vkeys b.1)).map V.int)) fst_RMx (withFractions b) (by unfold withFractions; rw [List.length_map, List.length_map]) (by rw [List.length_map, sizeLine_eq]; omega) hD (fun H2 s2 => SqL.of (s2 _ _ e1)) ?_ ?_
    · rintro i x y H2 H3 Nx hy s2 ⟨rfl, hx⟩ fin
      unfold withFractions at hy
      rw [List.getElem?_map] at hx hy
      obtain ⟨k, hk, rfl⟩ := Option.map_eq_some_iff.mp hx
      rw [hk] at hy
      have hy := Option.some.inj hy
      have hkm : k ∈ vkeys b.1 := (sortK_perm _).mem_iff.mp (List.mem_of_getElem? hk)
      obtain ⟨n, hn⟩ : ∃ n, vget b.1 k = some n := by
        have h3 : (b.1.any fun p => decide (p.1 = k)) = true := any_mem.mpr hkm
        rw [any_vget] at h3
        exact Option.isSome_iff_exists.mp h3
      have dg := (hv.same (Same.trans s1 s2)).vec.dget k
      rw [hn] at dg
      refine ⟨rfl, _, rfl, _, rfl, _, rfl, d, .int n, rfl, dg, _, rfl, n, b.2, rfl, h0, hbb, fun f H4 s4 hf => ⟨(by show 2 ≤ sizeLine; decide), fun t ht => ?_⟩⟩
      have s5 := same_upd (o := .tup [V.int k, .ref f]) (Same.refl H4) ht
      refine fin _ _ (Same.trans s4 s5) ⟨t, f, rfl, ?_, ?_⟩
      · rw [← hy]
        exact sqt_new
      · rw [← hy]
        show SqT K _ f [.int (ffrac ((vget b.1 k).getD 0) b.2).1, .int (ffrac ((vget b.1 k).getD 0) b.2).2]
        rw [hn]
        exact sqt_same s5 hf
    · intro H2 us s2 hus hls
      refine ⟨D, us, rfl, .inl ⟨SqL.of hus, fun t ht => ?_⟩⟩
      have s3 := same_upd (o := .tup us) (Same.refl H2) ht
      exact q t _ (Same.trans s1 (Same.trans s2 s3)) ⟨us, sqt_new, hls.wk fst_RMx (Wk.of s3)⟩
end
end FC
set_option Elab.async false
set_option linter.all false
set_option maxRecDepth 100000
set_option maxHeartbeats 4000000
/-! Tables in the heap. -/
namespace FC
open PySem PySem.Spec PyProof.Rows L2
def RBa (K : PySem.W.Frag) (H : Hp) (v : V) (q : List Int × Int) : Prop := ∃ a r, v = .ref a ∧ SqT K H a [.ref r, .int q.2] ∧ SqT K H r (q.1.map V.int)
theorem fst_RBa {K : PySem.W.Frag} : FSt (RBa K) := fun _ _ _ _ s ⟨t, f, e, h1, h2⟩ => ⟨t, f, e, sqt_wk s h1, sqt_wk s h2⟩
def RSt (K : PySem.W.Frag) (ps : List Stp) (H : Hp) (v : V) (s : Sta) : Prop := ∃ a, v = .ref a ∧ StAt K H a ps s
theorem fst_RSt {K : PySem.W.Frag} {ps : List Stp} : FSt (RSt K ps) := fun _ _ _ _ s ⟨a, e, h⟩ => ⟨a, e, st_wk s h⟩
def REl (K : PySem.W.Frag) (H : Hp) (v : V) (e : List Int × Mix) : Prop := ∃ a g m, v = .ref a ∧ SqT K H a [.ref g, .ref m] ∧ SqT K H g (e.1.map V.int) ∧ FT K (RMx K) H m e.2
theorem fst_REl {K : PySem.W.Frag} : FSt (REl K) := fun _ _ _ _ s ⟨a, g, m, e, h1, h2, h3⟩ => ⟨a, g, m, e, sqt_wk s h1, sqt_wk s h2, h3.wk fst_RMx s⟩
structure TC where
  c : Addr
  ma : Addr
  ga : Addr
  ta : Addr
  m : Int
  sp : Addr
  bs : Addr
  st : Addr
  en : Addr
  ss : List (Addr × Addr)
  X : MC
def TC.fs (Y : TC) : List (Str × V) := [("chain", .ref Y.c), ("machine", .ref Y.ma), ("groups", .ref Y.ga), ("told", .ref Y.ta), ("modulus", .int Y.m), ("spans", .ref Y.sp), ("basis", .ref Y.bs), ("states", .ref Y.st), ("entries", .ref Y.en)]
def TC.cells (Y : TC) : List Addr := Y.bs :: Y.st :: Y.en :: Y.ss.map (·.2)
structure TabAt (P : Program) (w : World) (K : PySem.W.Frag) (SC MCl GCl TCl : Addr) (H : Hp) (t : Addr) (Y : TC) (C : Ctx) (M : Mac) (T : Tbl) : Prop where
  ins : ∃ dx, H t = some (.ins TCl dx Y.fs)
  mac : MacAt P w K SC MCl H Y.ma Y.X C.ps M
  grp : GrpAt K GCl H Y.ga C.G
  told : FL (RBld K) H Y.ta C.told
  mod : Y.m = C.modulus
  chain : StpsAt K H Y.c C.ps
  spans : (∃ o, H Y.sp = some (.frz o (.lst (Y.ss.map fun p => V.ref p.1)))) ∧ Y.ss.length = T.spans.length ∧ ∀ (i : Nat) (p : Addr × Addr) (S : Spn), Y.ss[i]? = some p → T.spans[i]? = some S → SpanAt H SC p.1 p.2 S
  basis : ∃ us, H Y.bs = some (.lst us) ∧ Ls (RBa K) H us T.basis
  states : ∃ us, H Y.st = some (.lst us) ∧ Ls (RSt K C.ps) H us T.states
  entries : ∃ us, H Y.en = some (.lst us) ∧ Ls (RT K (REl K)) H us T.entries
  apart : Y.cells.Nodup
  off : ∀ z ∈ Y.cells, z ∉ Y.X.cells
structure TbT (K : PySem.W.Frag) (C : Addr) : Prop where
  cl : Cls K C
  nc : NoAttr K C "chain"
  nma : NoAttr K C "machine"
  ng : NoAttr K C "groups"
  nt : NoAttr K C "told"
  nm : NoAttr K C "modulus"
  ns : NoAttr K C "spans"
  nb : NoAttr K C "basis"
  nst : NoAttr K C "states"
  ne : NoAttr K C "entries"
theorem tc_mem {Y : TC} {z : Addr} : z ∈ Y.cells ↔ z = Y.bs ∨ z = Y.st ∨ z = Y.en ∨ z ∈ Y.ss.map (·.2) := by
  unfold TC.cells
  simp [List.mem_cons]
section
variable {P : Program} {w : World} {K : PySem.W.Frag} {SC MCl GCl TCl : Addr} {H H' : Hp} {t d : Addr} {Y : TC} {C : Ctx} {M M' : Mac} {T : Tbl} {X' : MC}
theorem TabAt.ck (h : TabAt P w K SC MCl GCl TCl H t Y C M T) : ∀ z ∈ Y.cells, ∃ o, H z = some o ∧ Ck o := fun z hz => by
  rcases tc_mem.mp hz with rfl | rfl | rfl | hz
  · obtain ⟨us, h1, _⟩ := h.basis; exact ⟨_, h1, True.intro⟩
  · obtain ⟨us, h1, _⟩ := h.states; exact ⟨_, h1, True.intro⟩
  · obtain ⟨us, h1, _⟩ := h.entries; exact ⟨_, h1, True.intro⟩
  · obtain ⟨p, hp, rfl⟩ := List.mem_map.mp hz
    obtain ⟨i, hi⟩ := List.getElem?_of_mem hp
    have lt := get_lt hi
    obtain ⟨h1, h2, h3⟩ := h.spans
    obtain ⟨L, hL, _⟩ := (h3 i p _ hi (List.getElem?_eq_getElem (by omega))).lns
    exact ⟨_, hL, True.intro⟩
theorem span_wk {C' p q : Addr} {S : Spn} (f : Fch H H') (k : ∀ o, H q = some o → H' q = some o) (h : SpanAt H C' p q S) : SpanAt H' C' p q S := by
  obtain ⟨⟨dx, y1⟩, ⟨L, y2, y3, y4⟩, y5⟩ := h
  exact ⟨⟨dx, f _ _ y1 id⟩, ⟨L, k _ y2, y3, fun x hx => vecf_wk f.wk (y4 x hx)⟩, y5⟩
theorem TabAt.keep (h : TabAt P w K SC MCl GCl TCl H t Y C M T) (f : Fch H H') (hM : MacAt P w K SC MCl H' Y.ma X' C.ps M') (k : ∀ z ∈ Y.cells, ∀ o, H z = some o → H' z = some o) (ho : ∀ z ∈ Y.cells, z ∉ X'.cells) : TabAt P w K SC MCl GCl TCl H' t { Y with X := X' } C M' T := by
  obtain ⟨⟨dx, h1⟩, h2, h3, h4, h5, h6, ⟨⟨o, h7⟩, h8, h9⟩, ⟨us, h10, h11⟩, ⟨vs, h12, h13⟩, ⟨ws, h14, h15⟩, h16, h17⟩ := h
  exact ⟨⟨dx, f _ _ h1 id⟩, hM, h3.fch f, h4.wk fst_RBld f.wk, h5, stps_wk f.wk h6, ⟨⟨o, f _ _ h7 id⟩, h8, fun i p S e1 e2 => span_wk f (k _ (tc_mem.mpr (.inr (.inr (.inr (List.mem_map.mpr ⟨p, List.mem_of_getElem? e1, rfl⟩)))))) (h9 i p S e1 e2)⟩,
    ⟨us, k _ (tc_mem.mpr (.inl rfl)) _ h10, h11.wk fst_RBa f.wk⟩, ⟨vs, k _ (tc_mem.mpr (.inr (.inl rfl))) _ h12, h13.wk fst_RSt f.wk⟩, ⟨ws, k _ (tc_mem.mpr (.inr (.inr (.inl rfl)))) _ h14, h15.wk (fst_RT fst_REl) f.wk⟩, h16, ho⟩
theorem TabAt.same (h : TabAt P w K SC MCl GCl TCl H t Y C M T) (s : Same H H') : TabAt P w K SC MCl GCl TCl H' t Y C M T := h.keep (Fch.of s) (h.mac.same s) (fun z _ o e => s _ _ e) h.off
/-- a blend placed in a group's span -/
theorem tab_place (h : TabAt P w K SC MCl GCl TCl H t Y C M T) {g : Nat} {p : Addr × Addr} {S S0 : Spn} (hp : Y.ss[g]? = some p) (s : OffD p.2 H H') (hS : SpanAt H' SC p.1 p.2 S) (ha : SpanAt H SC p.1 p.2 S0) : TabAt P w K SC MCl GCl TCl H' t Y C M { T with spans := T.spans.set g S } := by
  have o : Och p.2 H H' := ⟨s, by obtain ⟨L, hL, _⟩ := ha.lns; exact ⟨_, hL, True.intro⟩⟩
  have hm : p.2 ∈ Y.ss.map (·.2) := List.mem_map.mpr ⟨p, List.mem_of_getElem? hp, rfl⟩
  have hoff := h.off p.2 (tc_mem.mpr (.inr (.inr (.inr hm))))
  have hap := h.apart
  unfold TC.cells at hap
  simp only [List.nodup_cons, List.mem_cons, not_or] at hap
  obtain ⟨⟨_, _, a1⟩, ⟨_, a2⟩, a3, a4⟩ := hap
  have ne : ∀ {z}, z ∉ Y.ss.map (·.2) → z ≠ p.2 := fun hz e => hz (by rw [e]; exact hm)
  obtain ⟨⟨dx, h1⟩, h2, h3, h4, h5, h6, ⟨⟨ob, h7⟩, h8, h9⟩, ⟨us, h10, h11⟩, ⟨vs, h12, h13⟩, ⟨ws, h14, h15⟩, h16, h17⟩ := h
  refine ⟨⟨dx, o.at_ h1 id⟩, mac_off h2 o hoff, h3.fch o.fch, h4.wk fst_RBld o.fch.wk, h5, stps_och o h6, ⟨⟨ob, o.at_ h7 id⟩, by rw [List.length_set]; exact h8, fun i q U e1 e2 => ?_⟩,
    ⟨us, s _ _ (ne a1) h10, h11.wk fst_RBa o.fch.wk⟩, ⟨vs, s _ _ (ne a2) h12, h13.wk fst_RSt o.fch.wk⟩, ⟨ws, s _ _ (ne a3) h14, h15.wk (fst_RT fst_REl) o.fch.wk⟩, h16, h17⟩
  by_cases hi : g = i
  · subst hi
    have e2 : (T.spans.set g S)[g]? = some U := e2
    rw [List.getElem?_set_self'] at e2
    rw [hp] at e1
    cases e1
    cases z : T.spans[g]? with
    | none => rw [z] at e2; cases e2
    | some S1 =>
      rw [z] at e2
      obtain rfl : S = U := Option.some.inj e2
      exact hS
  · have e2 : (T.spans.set g S)[i]? = some U := e2
    rw [List.getElem?_set_ne hi] at e2
    refine span_och o (fun z => hi ?_) (h9 i q U e1 e2)
    have g1 : (Y.ss.map (·.2))[g]? = some p.2 := by rw [List.getElem?_map, hp]; rfl
    have g2 : (Y.ss.map (·.2))[i]? = some p.2 := by rw [List.getElem?_map, e1, ← z]; rfl
    exact nodup_get a4 g1 g2
/-- a basis row more; its state; its entries -/
theorem tab_bs (h : TabAt P w K SC MCl GCl TCl H t Y C M T) {us : List V} {v : V} {e : List Int × Int} (hu : H Y.bs = some (.lst us)) (hv : RBa K H v e) : TabAt P w K SC MCl GCl TCl (upd H Y.bs (.lst (us ++ [v]))) t Y C M { T with basis := T.basis ++ [e] } := by
  have o : Och Y.bs H (upd H Y.bs (.lst (us ++ [v]))) := ⟨OffD.upd (fun _ _ _ h => h), ⟨_, hu, True.intro⟩⟩
  have hoff := h.off _ (tc_mem.mpr (.inl rfl))
  have hap := h.apart
  unfold TC.cells at hap
  simp only [List.nodup_cons, List.mem_cons, not_or] at hap
  obtain ⟨⟨a0, a01, a1⟩, _⟩ := hap
  obtain ⟨⟨dx, h1⟩, h2, h3, h4, h5, h6, ⟨⟨ob, h7⟩, h8, h9⟩, ⟨us2, h10, h11⟩, ⟨vs, h12, h13⟩, ⟨ws, h14, h15⟩, h16, h17⟩ := h
  obtain rfl : us = us2 := by rw [hu] at h10; injection h10 with h10; injection h10
  exact ⟨⟨dx, o.at_ h1 id⟩, mac_off h2 o hoff, h3.fch o.fch, h4.wk fst_RBld o.fch.wk, h5, stps_och o h6, ⟨⟨ob, o.at_ h7 id⟩, h8, fun i q U e1 e2 => span_och o (fun z => a1 (by rw [← z]; exact List.mem_map.mpr ⟨q, List.mem_of_getElem? e1, rfl⟩)) (h9 i q U e1 e2)⟩,
    ⟨_, upd_same, (h11.snoc hv).wk fst_RBa o.fch.wk⟩, ⟨vs, o.off _ _ (fun z => a0 z.symm) h12, h13.wk fst_RSt o.fch.wk⟩, ⟨ws, o.off _ _ (fun z => a01 z.symm) h14, h15.wk (fst_RT fst_REl) o.fch.wk⟩, h16, h17⟩
theorem tab_st (h : TabAt P w K SC MCl GCl TCl H t Y C M T) {us : List V} {v : V} {e : Sta} (hu : H Y.st = some (.lst us)) (hv : RSt K C.ps H v e) : TabAt P w K SC MCl GCl TCl (upd H Y.st (.lst (us ++ [v]))) t Y C M { T with states := T.states ++ [e] } := by
  have o : Och Y.st H (upd H Y.st (.lst (us ++ [v]))) := ⟨OffD.upd (fun _ _ _ h => h), ⟨_, hu, True.intro⟩⟩
  have hoff := h.off _ (tc_mem.mpr (.inr (.inl rfl)))
  have hap := h.apart
  unfold TC.cells at hap
  simp only [List.nodup_cons, List.mem_cons, not_or] at hap
  obtain ⟨⟨a0, a01, a1⟩, ⟨a2, a3⟩, _⟩ := hap
  obtain ⟨⟨dx, h1⟩, h2, h3, h4, h5, h6, ⟨⟨ob, h7⟩, h8, h9⟩, ⟨us2, h10, h11⟩, ⟨vs, h12, h13⟩, ⟨ws, h14, h15⟩, h16, h17⟩ := h
  obtain rfl : us = vs := by rw [hu] at h12; injection h12 with h12; injection h12
  exact ⟨⟨dx, o.at_ h1 id⟩, mac_off h2 o hoff, h3.fch o.fch, h4.wk fst_RBld o.fch.wk, h5, stps_och o h6, ⟨⟨ob, o.at_ h7 id⟩, h8, fun i q U e1 e2 => span_och o (fun z => a3 (by rw [← z]; exact List.mem_map.mpr ⟨q, List.mem_of_getElem? e1, rfl⟩)) (h9 i q U e1 e2)⟩,
    ⟨us2, o.off _ _ a0 h10, h11.wk fst_RBa o.fch.wk⟩, ⟨_, upd_same, (h13.snoc hv).wk fst_RSt o.fch.wk⟩, ⟨ws, o.off _ _ (fun z => a2 z.symm) h14, h15.wk (fst_RT fst_REl) o.fch.wk⟩, h16, h17⟩
theorem tab_en (h : TabAt P w K SC MCl GCl TCl H t Y C M T) {us : List V} {v : V} {e : List (List Int × Mix)} (hu : H Y.en = some (.lst us)) (hv : RT K (REl K) H v e) : TabAt P w K SC MCl GCl TCl (upd H Y.en (.lst (us ++ [v]))) t Y C M { T with entries := T.entries ++ [e] } := by
  have o : Och Y.en H (upd H Y.en (.lst (us ++ [v]))) := ⟨OffD.upd (fun _ _ _ h => h), ⟨_, hu, True.intro⟩⟩
  have hoff := h.off _ (tc_mem.mpr (.inr (.inr (.inl rfl))))
  have hap := h.apart
  unfold TC.cells at hap
  simp only [List.nodup_cons, List.mem_cons, not_or] at hap
  obtain ⟨⟨a0, a01, a1⟩, ⟨a2, a3⟩, a4, _⟩ := hap
  obtain ⟨⟨dx, h1⟩, h2, h3, h4, h5, h6, ⟨⟨ob, h7⟩, h8, h9⟩, ⟨us2, h10, h11⟩, ⟨vs, h12, h13⟩, ⟨ws, h14, h15⟩, h16, h17⟩ := h
  obtain rfl : us = ws := by rw [hu] at h14; injection h14 with h14; injection h14
  exact ⟨⟨dx, o.at_ h1 id⟩, mac_off h2 o hoff, h3.fch o.fch, h4.wk fst_RBld o.fch.wk, h5, stps_och o h6, ⟨⟨ob, o.at_ h7 id⟩, h8, fun i q U e1 e2 => span_och o (fun z => a4 (by rw [← z]; exact List.mem_map.mpr ⟨q, List.mem_of_getElem? e1, rfl⟩)) (h9 i q U e1 e2)⟩,
    ⟨us2, o.off _ _ a01 h10, h11.wk fst_RBa o.fch.wk⟩, ⟨vs, o.off _ _ a2 h12, h13.wk fst_RSt o.fch.wk⟩, ⟨_, upd_same, (h15.snoc hv).wk (fst_RT fst_REl) o.fch.wk⟩, h16, h17⟩
end
end FC
set_option Elab.async false
set_option linter.all false
set_option maxRecDepth 100000
set_option maxHeartbeats 4000000
/-! look_at. -/
namespace FC
open PySem PySem.Spec PyProof.Rows L2
abbrev tbM (i : Nat) : Stmt := inClass sTable i
/-- what look_at leaves -/
def TabQ (P : Program) (w : World) (K : PySem.W.Frag) (SC MCl GCl TCl : Addr) (H : Hp) (t : Addr) (Y : TC) (C : Ctx) (M : Mac) (T : Tbl) (R : Hp → V → Prop) (Q : VK) : Prop :=
  ∀ (v : V) H' X', TabAt P w K SC MCl GCl TCl H' t { Y with X := X' } C M T → Frm (Y.cells ++ Y.X.cells) H H' → (∀ z ∈ X'.cells, z ∈ Y.X.cells ∨ H z = none) → R H' v → Q v H'
def spLookAt (P : Program) (w : World) (K : PySem.W.Frag) (SC MCl GCl TCl : Addr) : Sp := fun vs H Q _ => ∃ (t ra sa : Addr) (Y : TC) (C : Ctx) (M M' : Mac) (T T' : Tbl) (row : List Int) (s : Sta) (mix : Mix), vs = [.ref t, .ref ra, .ref sa] ∧ TabAt P w K SC MCl GCl TCl H t Y C M T ∧ SqT K H ra (row.map V.int) ∧ StAt K H sa C.ps s ∧
  lookAt C (M, T) row s = some ((M', T'), mix) ∧ TabQ P w K SC MCl GCl TCl H t Y C M' T' (fun H' v => RT K (RMx K) H' v mix) Q
section
variable {P : Program} {w : World} {K : PySem.W.Frag} {mg : Str → Option Value} {base : Heap} {SC MCl GCl TCl : Addr}
abbrev NLk : List Str := ["self", "row", "state", "control", "blend", "group", "name", "mix"]
theorem scLookAt : FnScope NLk ["self", "row", "state"] (defScope (tbM 2)) := ⟨rfl, rfl, rfl, by decide +kernel, rfl, by decide +kernel, by decide +kernel⟩
theorem ok_lookAt {f fL fP : Addr} {fd fdL fdP : FuncData} (F : Fun K "look_at" "Table.look_at" (tbM 2) f fd) (TT : TbT K TCl) (TM : McT K MCl) (TG : GrT K GCl) (TS : SpT K SC) (B : Blt mg)
    (GL : FnOk P w K mg base CX0 5 fL fdL ["self", "state"] (spLocate P w K SC MCl)) (bL : Binds K fdL ["self", "state"] []) (mL : Meth K MCl "locate" fL) (GP : FnOk P w K mg base CX0 4 fP fdP ["self", "blend", "name"] (spPlace K SC)) (bP : Binds K fdP ["self", "blend", "name"] []) (mP : Meth K SC "place" fP)
    (CB : Cal P w K mg base CX0 3 "blended" ["blend", "table"] (spBlended K)) (CW : Cal P w K mg base CX0 2 "with_fractions" ["blend"] (spWithFr K)) : FnOk P w K mg base CX0 6 f fd ["self", "row", "state"] (spLookAt P w K SC MCl GCl TCl) := by
  refine F.ok scLookAt (fun vs H Q E h => ?_) (fun cdv A outer s H vs Q E hr h => ?_)
  · obtain ⟨t, ra, sa, Y, C, M, M', T, T', row, st, mix, rfl, _⟩ := h
    rfl
  · obtain ⟨t, ra, sa, Y, C, M, M', T, T', row, st, mix, rfl, hT, hra, hsa, hm, q⟩ := h
    have nd := scLookAt.nd
    have hr2 : Room 2 _ := hr.mono (by decide)
    have hr3 : Room 3 _ := hr.mono (by decide)
    have hr4 : Room 4 _ := hr.mono (by decide)
    refine ⟨_, pss_cons (ps_asg (pe_meth (pe_fld (pv 0) rfl) TM.cl mL GL hr bL .nil pass0 (pa_cons (pv 2) pa_nil)) (pg_tup rfl (pgs_cons (pg_name (i := 3) nd rfl (Or.inl rfl)) (pgs_cons (pg_name (i := 4) nd rfl (Or.inl rfl)) pgs_nil))))
      (pss_cons (ps_set (i := 5) nd rfl (Or.inl rfl) (pe_ix (r := rIxL K) ix_list (pe_fld (pe_fld (pv 0) rfl) rfl) (pv 3) (fun _ _ => rfl)))
      (pss_cons (ps_set (i := 6) nd rfl (Or.inl rfl) (pe_callB call_len (by rfl) B.len PySem.boot_len (pa_cons (pe_fld (pv 0) rfl) pa_nil)))
      (pss_cons (ps_set (i := 7) nd rfl (Or.inl rfl) (pe_meth (pe_ix (r := rIxL K) ix_list (pe_fld (pv 0) rfl) (pv 5) (fun _ _ => rfl)) TS.cl mP GP hr4 bP .nil pass0 (pa_cons (pe_cal CB hr3 pass0 (pa_cons (pv 4) (pa_cons (pe_fld (pv 0) rfl) pa_nil))) (pa_cons (pv 6) pa_nil))))
      (pss_cons (ps_if (pt_cmp (pc_din (hu_of hr) (pv 6) (pe_ix (r := rIxT K) ix_tup (pv 7) pe_int (fun _ _ => rfl))))
        (pss_cons (ps_expr (pe_bm PySem.F.plainAttrs_list PySem.F.slot_list_append PySem.F.type_list_append mt_append (pe_fld (pv 0) rfl) (pa_cons (pe_tup (pa_cons (pv 1) (pa_cons (pv 5) pa_nil))) pa_nil)))
        (pss_one (ps_expr (pe_bm PySem.F.plainAttrs_list PySem.F.slot_list_append PySem.F.type_list_append mt_append (pe_fld (pv 0) rfl) (pa_cons (pv 2) pa_nil))))) pss_nil)
      (pss_one (ps_ret (pe_cal CW hr2 pass0 (pa_cons (pv 7) pa_nil)))))))), ?_⟩
    unfold lookAt at hm
    obtain ⟨_, hg, hm⟩ := bnd_some.mp hm
    obtain ⟨⟨M1, c1, bl1⟩, hlo, hm⟩ := bnd_some.mp hm
    obtain ⟨g, hgc, hm⟩ := bnd_some.mp hm
    obtain ⟨S, hS, hm⟩ := bnd_some.mp hm
    obtain ⟨b, hb, hm⟩ := bnd_some.mp hm
    obtain ⟨_, hg2, hm⟩ := bnd_some.mp hm
    obtain ⟨r, hpl, hm⟩ := bnd_some.mp hm
    obtain ⟨_, hg3, hm⟩ := bnd_some.mp hm
    have hm := Option.some.inj hm
    have hg := grd_some.mp hg
    unfold macOk at hg
    rw [Bool.and_eq_true, Bool.and_eq_true, decide_eq_true_eq, decide_eq_true_eq, List.all_eq_true] at hg
    obtain ⟨u1, u2, u3⟩ := hg
    have hg2 := grd_some.mp hg2
    rw [Bool.and_eq_true, Bool.and_eq_true, decide_eq_true_eq, decide_eq_true_eq, decide_eq_true_eq] at hg2
    obtain ⟨u4, u5, u55⟩ := hg2
    have u5 : T.basis.length < 100000 := u5
    have u55 : T.states.length < 100000 := u55
    have hg3 := grd_some.mp hg3
    rw [Bool.and_eq_true, Bool.and_eq_true, Bool.and_eq_true, decide_eq_true_eq, decide_eq_true_eq] at hg3
    obtain ⟨u6, u7, u8, u9⟩ := hg3
    have hsz : 200000 < sizeLine := by rw [sizeLine_eq]; omega
    obtain ⟨dx, hi⟩ := hT.ins
    obtain ⟨dxm, him⟩ := hT.mac.ins
    refine ⟨_, rfl, t, TCl, dx, _, _, rfl, hi, TT.cl, TT.nma, rfl, Y.ma, dxm, _, rfl, him, rfl, _, rfl, Y.ma, sa, Y.X, C.ps, M, M1, st, c1, bl1, rfl, hT.mac, hsa, u1, u2, fun l hl => of_decide_eq_true (u3 l hl), hlo, fun t1 bla H1 X1 hM1 fr1 hc1 he1 ht1 hbl1 => ?_⟩
    have f1 := fch_of hT.mac fr1
    have hoff1 : ∀ z ∈ Y.cells, z ∉ X1.cells := fun z hz hx => by
      rcases hc1 z hx with e | e
      · exact hT.off z hz e
      · obtain ⟨o, ho, _⟩ := hT.ck z hz
        rw [e] at ho
        cases ho
    have hT1 := hT.keep (X' := X1) f1 hM1 (fun z hz o e => fr1 z o e (hT.off z hz)) hoff1
    have hra1 := sqt_fch f1 hra
    have hsa1 := st_fch f1 hsa
    refine ⟨t1, _, rfl, ht1, rfl, _, _, rfl, _, _, rfl, rfl, ?_⟩
    obtain ⟨dxg, fa, oa, ca, aa, g1, g2, g3, g4, g5⟩ := hT1.grp
    obtain ⟨ovs, oo, o1, o2⟩ := g3
    obtain ⟨hgc0, hgc⟩ := at_some hgc
    obtain ⟨gv, hgv, hgv2⟩ := o2.get hgc
    have hgv2 : gv = .int g := hgv2
    subst hgv2
    have hi1 := f1 _ _ hi id
    refine ⟨_, rfl, t, TCl, dx, _, _, rfl, hi1, TT.cl, TT.ng, rfl, Y.ga, GCl, dxg, _, _, rfl, g1, TG.cl, TG.no, rfl, _, rfl, oa, _, c1, .int g, rfl, rfl, .inl (.inr ⟨oo, o1⟩), atI_of hgc0 hgv, ?_⟩
    obtain ⟨bus, bu1, bu2⟩ := hT1.basis
    have hbul := bu2.len
    refine ⟨_, rfl, t, TCl, dx, _, _, rfl, hi1, TT.cl, TT.nb, rfl, _, _, rfl, .inl ⟨_, SqL.of bu1, rfl⟩, ?_⟩
    obtain ⟨⟨os, sp1⟩, sp2, sp3⟩ := hT1.spans
    obtain ⟨hg0, hS⟩ := at_some hS
    have hS : T.spans[g.toNat]? = some S := hS
    have hlt := get_lt hS
    have sp2' : Y.ss.length = T.spans.length := sp2
    obtain ⟨p, hp⟩ : ∃ p, Y.ss[g.toNat]? = some p := ⟨Y.ss[g.toNat]'(by omega), List.getElem?_eq_getElem (by omega)⟩
    have hSp := sp3 g.toNat p S hp hS
    obtain ⟨dxs, his⟩ := hSp.ins
    refine ⟨_, rfl, t, TCl, dx, _, _, rfl, hi1, TT.cl, TT.ns, rfl, _, rfl, Y.sp, _, g, .ref p.1, rfl, rfl, .inl (.inr ⟨os, sp1⟩), atI_of hg0 (by rw [List.getElem?_map, hp]; rfl), p.1, dxs, _, rfl, his, rfl, ?_⟩
    refine ⟨_, rfl, _, rfl, t, TCl, dx, _, _, rfl, hi1, TT.cl, TT.nt, rfl, bla, Y.ta, bl1, C.told, b, rfl, hbl1, tbl_of hT1.told, hb, fun b2 H2 s2 hb2 => ⟨_, rfl, ?_⟩⟩
    obtain ⟨bd, hbt, hbv⟩ := hb2
    have hSp2 := hSp.same s2
    have nbd : bd ≠ p.2 := fun z => by
      obtain ⟨L, hL, _⟩ := hSp2.lns
      obtain ⟨⟨o, e⟩, _⟩ := hbv
      rw [z, hL] at e
      cases e
    have hnm : ((bus.length : Nat) : Int) = (T.basis.length : Int) := by rw [hbul]
    refine ⟨p.1, p.2, b2, bd, S, r.1, b.1, b.2, (bus.length : Nat), r.2, rfl, hSp2, hbt, hbv.vec, nbd, by omega, by rw [hnm]; exact hpl, fun mx H3 off3 sp3' bl3 => ?_⟩
    have hT2 := hT1.same s2
    have hT3 := tab_place hT2 hp off3 sp3' hSp2
    have pcell : p.2 ∈ Y.cells := tc_mem.mpr (.inr (.inr (.inr (List.mem_map.mpr ⟨p, List.mem_of_getElem? hp, rfl⟩))))
    have oc3 : Och p.2 H2 H3 := ⟨off3, by obtain ⟨L, hL, _⟩ := hSp2.lns; exact ⟨_, hL, True.intro⟩⟩
    have frm3 : Frm (Y.cells ++ Y.X.cells) H H3 := fun z o hz hn => off3 z o (fun e => hn (List.mem_append_left _ (by rw [e]; exact pcell))) (s2 _ _ (fr1 z o hz (fun e => hn (List.mem_append_right _ e))))
    have f13 : Fch H1 H3 := (Fch.of s2).trans oc3.fch
    have hi3 := f13 _ _ hi1 id
    have hra3 := sqt_fch f13 hra1
    have hsa3 := st_fch f13 hsa1
    have hb3 := bl3
    obtain ⟨md, mt, mv⟩ := bl3
    have dg := mv.vec.dget ((bus.length : Nat) : Int)
    refine ⟨_, rfl, _, rfl, mx, _, 0, .ref md, rfl, rfl, mt, atI_nat (j := 0) rfl, md, _, rfl, dg, _, rfl, ?_⟩
    have hsome : ((vget r.2.1 ((bus.length : Nat) : Int)).map V.int).isSome = r.2.1.any fun p => decide (p.1 = (T.basis.length : Int)) := by
      rw [Option.isSome_map, ← any_vget, hnm]
    rw [hsome]
    cases hany : r.2.1.any fun p => decide (p.1 = (T.basis.length : Int)) with
    | false =>
      have e : lookFin T row st g r = { T with spans := T.spans.set g.toNat r.1 } := by
        unfold lookFin
        rw [hany]
        rfl
      have e' : ((M1, lookFin T row st g r), withFractions r.2) = ((M', T'), mix) := hm
      rw [e] at e'
      cases e'
      refine iteF' rfl ?_
      refine ⟨_, rfl, mx, r.2, rfl, hb3, u6, u9, sm_lt u8, fun tr H6 s6 hmx => ?_⟩
      exact q (.ref tr) H6 X1 (hT3.same s6) (fun z o hz hn => s6 _ _ (frm3 z o hz hn)) hc1 ⟨tr, rfl, hmx⟩
    | true =>
      have e : lookFin T row st g r = { T with spans := T.spans.set g.toNat r.1, basis := T.basis ++ [(row, g)], states := T.states ++ [st] } := by
        unfold lookFin
        rw [hany]
        rfl
      have e' : ((M1, lookFin T row st g r), withFractions r.2) = ((M', T'), mix) := hm
      rw [e] at e'
      cases e'
      refine iteT' rfl ?_
      obtain ⟨bus3, bu31, bu32⟩ := hT3.basis
      have bl3l : bus3.length = T.basis.length := bu32.len
      refine ⟨_, rfl, t, TCl, dx, _, _, rfl, hi3, TT.cl, TT.nb, rfl, .inl ⟨rfl, _, SqL.of bu31⟩, _, rfl, _, rfl, (by show 2 ≤ sizeLine; decide), fun tt ntt => ?_⟩
      have s4 := same_upd (o := .tup [V.ref ra, .int g]) (Same.refl H3) ntt
      have r4 : RBa K (upd H3 tt (.tup [V.ref ra, .int g])) (.ref tt) (row, g) := ⟨tt, ra, rfl, sqt_new, sqt_same s4 hra3⟩
      have hT4 := hT3.same s4
      have bu4 := s4 _ _ bu31
      have hi4 := s4 _ _ hi3
      have hsa4 := st_same s4 hsa3
      have mx4 := hb3.same s4
      generalize upd H3 tt (.tup [V.ref ra, .int g]) = H4 at s4 r4 hT4 bu4 hi4 hsa4 mx4 ⊢
      refine ⟨Y.bs, _, _, rfl, rfl, bu4, by omega, ?_⟩
      have oc5 : Och Y.bs H4 (upd H4 Y.bs (.lst (bus3 ++ [.ref tt]))) := ⟨OffD.upd (fun _ _ _ h => h), ⟨_, bu4, True.intro⟩⟩
      have hT5 := tab_bs hT4 bu4 r4
      have hi5 := oc5.at_ hi4 id
      have hsa5 := st_och oc5 hsa4
      have mx5 := bld_och oc5 mx4
      have fr5 : Frm (Y.cells ++ Y.X.cells) H (upd H4 Y.bs (.lst (bus3 ++ [.ref tt]))) := fun z o hz hn => oc5.off z o (fun e => hn (List.mem_append_left _ (by rw [e]; exact tc_mem.mpr (.inl rfl)))) (s4 _ _ (frm3 z o hz hn))
      have hT5' : TabAt P w K SC MCl GCl TCl (upd H4 Y.bs (.lst (bus3 ++ [.ref tt]))) t { Y with X := X1 } C M' { T with spans := T.spans.set g.toNat r.1, basis := T.basis ++ [(row, g)] } := hT5
      clear hT5
      generalize upd H4 Y.bs (.lst (bus3 ++ [.ref tt])) = H5 at oc5 hT5' hi5 hsa5 mx5 fr5 ⊢
      obtain ⟨sus, su1, su2⟩ := hT5'.states
      have sul : sus.length = T.states.length := su2.len
      refine ⟨_, rfl, t, TCl, dx, _, _, rfl, hi5, TT.cl, TT.nst, rfl, .inl ⟨rfl, _, SqL.of su1⟩, _, rfl, Y.st, _, _, rfl, rfl, su1, by omega, ?_⟩
      have oc6 : Och Y.st H5 (upd H5 Y.st (.lst (sus ++ [.ref sa]))) := ⟨OffD.upd (fun _ _ _ h => h), ⟨_, su1, True.intro⟩⟩
      have hT6 := tab_st hT5' (v := .ref sa) (e := st) su1 ⟨sa, rfl, hsa5⟩
      have mx6 := bld_och oc6 mx5
      have fr6 : Frm (Y.cells ++ Y.X.cells) H (upd H5 Y.st (.lst (sus ++ [.ref sa]))) := fun z o hz hn => oc6.off z o (fun e => hn (List.mem_append_left _ (by rw [e]; exact tc_mem.mpr (.inr (.inl rfl))))) (fr5 z o hz hn)
      refine ⟨_, rfl, mx, r.2, rfl, mx6, u6, u9, sm_lt u8, fun tr H7 s7 hmx => ?_⟩
      exact q (.ref tr) H7 X1 (hT6.same s7) (fun z o hz hn => s7 _ _ (fr6 z o hz hn)) hc1 ⟨tr, rfl, hmx⟩
end
end FC
set_option Elab.async false
set_option linter.all false
set_option maxRecDepth 100000
set_option maxHeartbeats 4000000
/-! entry. -/
namespace FC
open PySem PySem.Spec PyProof.Rows L2
def rCatN (K : PySem.W.Frag) : R2 := fun x y H Q => ∃ a b xs ys, x = .ref a ∧ y = .ref b ∧ SqT K H a xs ∧ SqT K H b ys ∧ xs.length + ys.length ≤ sizeLine ∧ ∀ p H', Same H H' → SqT K H' p (xs ++ ys) → Q (.ref p) H'
theorem op_catN {X : Cx} : OpR X (binaryOp .Add) (rCatN X.K) := by
  intro pins s σ H x y v u Q I rx ry h
  obtain ⟨a, b, xs, ys, hx, hy, h1, h2, h3, q⟩ := h
  refine op_catA pins s σ H x y v u Q I rx ry ⟨a, b, xs, ys, hx, hy, h1, h2, h3, fun e => q b H (Same.refl H) (by rw [e]; exact h2), fun _ e => q a H (Same.refl H) (by rw [e, List.append_nil]; exact h1), fun _ _ p hp => q p _ (same_upd (Same.refl H) hp) sqt_new⟩
def spEntry (P : Program) (w : World) (K : PySem.W.Frag) (SC MCl GCl TCl : Addr) : Sp := fun vs H Q _ => ∃ (t ra sa : Addr) (x : Int) (Y : TC) (C : Ctx) (M M' : Mac) (T T' : Tbl) (row : List Int) (s : Sta) (mix : Mix), vs = [.ref t, .ref ra, .ref sa, .int x] ∧ TabAt P w K SC MCl GCl TCl H t Y C M T ∧ SqT K H ra (row.map V.int) ∧ row.length < 100000 ∧ StAt K H sa C.ps s ∧
  lookAt C (M, T) (row ++ [x]) (adv C.ps s x).2 = some ((M', T'), mix) ∧ TabQ P w K SC MCl GCl TCl H t Y C M' T' (fun H' v => REl K H' v ((adv C.ps s x).1, mix)) Q
section
variable {P : Program} {w : World} {K : PySem.W.Frag} {mg : Str → Option Value} {base : Heap} {SC MCl GCl TCl : Addr}
abbrev NEt : List Str := ["self", "row", "state", "number", "given", "state_behind"]
theorem scEntry : FnScope NEt ["self", "row", "state", "number"] (defScope (tbM 1)) := ⟨rfl, rfl, rfl, by decide +kernel, rfl, by decide +kernel, by decide +kernel⟩
theorem ok_entry {f fL : Addr} {fd fdL : FuncData} (F : Fun K "entry" "Table.entry" (tbM 1) f fd) (TT : TbT K TCl) (CA : Cal P w K mg base CX0 3 "advance" ["chain", "state", "number"] (spAdv K))
    (GL : FnOk P w K mg base CX0 6 fL fdL ["self", "row", "state"] (spLookAt P w K SC MCl GCl TCl)) (bL : Binds K fdL ["self", "row", "state"] []) (mL : Meth K TCl "look_at" fL) : FnOk P w K mg base CX0 7 f fd ["self", "row", "state", "number"] (spEntry P w K SC MCl GCl TCl) := by
  refine F.ok scEntry (fun vs H Q E h => ?_) (fun cdv A outer s H vs Q E hr h => ?_)
  · obtain ⟨t, ra, sa, x, Y, C, M, M', T, T', row, st, mix, rfl, _⟩ := h
    rfl
  · obtain ⟨t, ra, sa, x, Y, C, M, M', T, T', row, st, mix, rfl, hT, hra, hrl, hsa, hm, q⟩ := h
    have nd := scEntry.nd
    have hr3 : Room 3 _ := hr.mono (by decide)
    refine ⟨_, pss_cons (ps_asg (pe_cal CA hr3 pass0 (pa_cons (pe_fld (pv 0) rfl) (pa_cons (pv 2) (pa_cons (pv 3) pa_nil)))) (pg_tup rfl (pgs_cons (pg_name (i := 4) nd rfl (Or.inl rfl)) (pgs_cons (pg_name (i := 5) nd rfl (Or.inl rfl)) pgs_nil))))
      (pss_one (ps_ret (pe_tup (pa_cons (pv 4) (pa_cons (pe_meth (pv 0) TT.cl mL GL hr bL .nil pass0 (pa_cons (pe_op op_catN (pv 1) (pe_tup (pa_cons (pv 3) pa_nil))) (pa_cons (pv 5) pa_nil))) pa_nil))))), ?_⟩
    obtain ⟨dx, hi⟩ := hT.ins
    obtain ⟨rw0, es, hrow⟩ := hsa
    have hok := hT.mac.ok
    have ea := adv_ok hok.1 rw0 x
    rw [es, ea] at hm q
    refine ⟨_, rfl, t, TCl, dx, _, _, rfl, hi, TT.cl, TT.nc, rfl, _, rfl, _, rfl, Y.c, sa, x, C.ps, rw0, rfl, hT.chain, hok.1, hok.2, hrow, fun t1 g a' H1 s1 ht hg ha' => ?_⟩
    refine ⟨t1, _, rfl, ht, rfl, _, _, rfl, _, _, rfl, rfl, ?_⟩
    refine ⟨_, rfl, _, rfl, t, dx, _, rfl, s1 _ _ hi, rfl, _, rfl, _, rfl, (by show 1 ≤ sizeLine; decide), fun nt nnt => ?_⟩
    have s2 := same_upd (o := .tup [V.int x]) (Same.refl H1) nnt
    have hra2 := sqt_same s2 (sqt_same s1 hra)
    have hn2 : SqT K (upd H1 nt (.tup [V.int x])) nt [V.int x] := sqt_new
    generalize upd H1 nt (.tup [V.int x]) = H2 at s2 hra2 hn2 ⊢
    refine ⟨ra, nt, _, _, rfl, rfl, hra2, hn2, by rw [List.length_map, sizeLine_eq]; show row.length + 1 ≤ _; omega, fun rp H3 s3 hrp => ?_⟩
    have s13 := Same.trans s1 (Same.trans s2 s3)
    have hrp' : SqT K H3 rp ((row ++ [x]).map V.int) := by rw [List.map_append]; exact hrp
    refine ⟨_, rfl, t, rp, a', Y, C, M, M', T, T', row ++ [x], stOf C.ps (rw0 ++ [x]), mix, rfl, hT.same s13, hrp', ⟨_, rfl, ha'.same (Same.trans s2 s3)⟩, hm, fun v H4 X4 hT4 fr4 hc4 hv4 => ?_⟩
    obtain ⟨mxa, rfl, hmx⟩ := hv4
    have hck := hT.ck
    have f34 : Fch H3 H4 := fun b o hb n => fr4 b o hb (fun e => by
      rcases List.mem_append.mp e with e | e
      · obtain ⟨u, hu, ck⟩ := hck b e
        have := s13 _ _ hu
        rw [this] at hb
        exact n (by rw [← Option.some.inj hb]; exact ck)
      · obtain ⟨u, hu, ck⟩ := mac_ck hT.mac b e
        have := s13 _ _ hu
        rw [this] at hb
        exact n (by rw [← Option.some.inj hb]; exact ck))
    refine ⟨(by show 2 ≤ sizeLine; decide), fun tr ntr => ?_⟩
    have s5 := same_upd (o := .tup [V.ref g, .ref mxa]) (Same.refl H4) ntr
    refine q (.ref tr) _ X4 (hT4.same s5) (fun z o hz hn => s5 _ _ (fr4 z o (s13 _ _ hz) hn)) (fun z hz => (hc4 z hz).imp id fun e => none_same s13 e) ⟨tr, g, mxa, rfl, sqt_new, ?_, hmx.wk fst_RMx (Wk.of s5)⟩
    exact sqt_same s5 (sqt_fch f34 (sqt_same (Same.trans s2 s3) hg))
end
end FC
set_option Elab.async false
set_option linter.all false
set_option maxRecDepth 100000
set_option maxHeartbeats 4000000
/-! Table.__init__. -/
namespace FC
open PySem PySem.Spec PyProof.Rows L2
section
variable {P : Program} {w : World} {K : PySem.W.Frag} {SC MCl GCl : Addr} {H H' : Hp} {a d C dx : Addr} {fs : List (Str × V)} {X : MC} {ps : List Stp} {M : Mac} {G : Grp}
/-- an instance elsewhere changes -/
theorem mac_insG (h : MacAt P w K SC MCl H a X ps M) (hd : H d = some (.ins C dx fs)) (n1 : fs.head?.map (·.1) ≠ some ("lines" : Str)) (n2 : (fs[1]?).map (·.1) ≠ some ("moduli" : Str)) (o : OffD d H H') : MacAt P w K SC MCl H' a X ps M := by
  have k : ∀ {z : Addr} {u : HO}, H z = some u → u ≠ .ins C dx fs → H' z = some u := fun {z u} hz n => o z u (fun e => n (by rw [e, hd] at hz; exact (Option.some.inj hz).symm)) hz
  have kt : ∀ {z : Addr} {xs : List V}, SqT K H z xs → SqT K H' z xs := fun {z xs} h => by
    rcases h with (h | ⟨o, h⟩) | h
    · exact .inl (.inl (k h (fun e => nomatch e)))
    · exact .inl (.inr ⟨o, k h (fun e => nomatch e)⟩)
    · exact .inr h
  have kv : ∀ {z : Addr} {v : Vec}, VecF H z v → VecF H' z v := fun {z v} ⟨⟨o, e⟩, dd⟩ => ⟨⟨o, k e (fun e => nomatch e)⟩, dd⟩
  have nX : ∀ {dx' : Addr}, HO.ins MCl dx' X.fs ≠ .ins C dx fs := fun e => by
    have := (HO.ins.inj e).2.2
    rw [← this] at n2
    exact n2 rfl
  have nL : ∀ {dx' : Addr} {v : V}, HO.ins SC dx' [(("lines" : Str), v)] ≠ .ins C dx fs := fun e => by
    have := (HO.ins.inj e).2.2
    rw [← this] at n1
    exact n1 rfl
  obtain ⟨⟨dx, h1⟩, h2, h3, ⟨om, h4⟩, h5, ⟨xs, h6, h7, h8⟩, ⟨h9, h10, h11⟩, ⟨h12, h13, h14⟩, ⟨h15, h16, h17⟩, ⟨h18, h19, h20⟩, h21, h22⟩ := h
  refine ⟨⟨dx, k h1 nX⟩, ?_, h3, ⟨om, k h4 (fun e => nomatch e)⟩, h5, ⟨xs, ⟨k h6.1 (fun e => nomatch e), fun x hx => ?_⟩, h7, h8⟩, ⟨k h9 (fun e => nomatch e), h10, fun i p S e1 e2 => ?_⟩, ⟨k h12 (fun e => nomatch e), h13, fun i b st e1 e2 => ?_⟩,
    ⟨k h15 (fun e => nomatch e), h16, fun i b l e1 e2 => k (h17 i b l e1 e2) (fun e => nomatch e)⟩, ⟨k h18 (fun e => nomatch e), h19, fun i b l e1 e2 => ?_⟩, h21, h22⟩
  · obtain ⟨xs, x1, x2, x3⟩ := h2
    refine ⟨xs, kt x1, x2, fun i x p hx hp => ?_⟩
    obtain ⟨b, y1, y2⟩ := x3 i x p hx hp
    exact ⟨b, y1, kt y2⟩
  · obtain ⟨bs, y1, y2, y3⟩ := h6.2 x hx
    exact ⟨bs, k y1 (fun e => nomatch e), y2, fun i c ks e1 e2 => k (y3 i c ks e1 e2) (fun e => nomatch e)⟩
  · obtain ⟨⟨dx, y1⟩, ⟨L, y2, y3, y4⟩, y5⟩ := h11 i p S e1 e2
    exact ⟨⟨dx, k y1 nL⟩, ⟨L, k y2 (fun e => nomatch e), y3, fun x hx => kv (y4 x hx)⟩, y5⟩
  · obtain ⟨row, e, xs, y1, y2, y3⟩ := h14 i b st e1 e2
    refine ⟨row, e, xs, kt y1, y2, fun i x p hx hp => ?_⟩
    obtain ⟨b, z1, z2⟩ := y3 i x p hx hp
    exact ⟨b, z1, kt z2⟩
  · obtain ⟨xs, ⟨o, y1⟩, y2, y3⟩ := h20 i b l e1 e2
    refine ⟨xs, ⟨o, k y1 (fun e => nomatch e)⟩, y2, fun i x e hx he => ?_⟩
    obtain ⟨b, e1, g, bl, m1, m2, ⟨dd, m3, m4⟩⟩ := y3 i x e hx he
    exact ⟨b, e1, g, bl, kt m1, kt m2, dd, kt m3, kv m4⟩
theorem grp_insG (h : GrpAt K GCl H a G) (hd : H d = some (.ins C dx fs)) (n1 : fs.head?.map (·.1) ≠ some ("firsts" : Str)) (o : OffD d H H') : GrpAt K GCl H' a G := by
  have wk : Wk H H' := Wk.off o hd (fun z => z)
  obtain ⟨dx', fa, oa, ca, aa, h1, h2, h3, h4, h5⟩ := h
  refine ⟨dx', fa, oa, ca, aa, o _ _ (fun z => ?_) h1, h2.wk fst_RI wk, h3.wk fst_RI wk, h4.wk (fst_RT fst_RP) wk, h5.wk (fst_RL fst_RI) wk⟩
  rw [z, hd] at h1
  have := (HO.ins.inj (Option.some.inj h1)).2.2
  rw [this] at n1
  exact n1 rfl
end
theorem make_same {H1 H2 H3 : Hp} {x dm C : Addr} (hx : H1 x = none) (hdm : H1 dm = none) (hne : dm ≠ x) (e : H2 = upd (upd H1 dm (.own x)) x (.ins C dm [])) (o : OffD x H2 H3) : Same H1 H3 ∧ Same H1 H2 := by
  have s2 : Same H1 H2 := fun b ob hb => by
    rw [e, upd_ne (ne_of_none hb hx), upd_ne (ne_of_none hb hdm)]
    exact hb
  exact ⟨fun b ob hb => o b ob (ne_of_none hb hx) (s2 _ _ hb), s2⟩
theorem span_off {H H' : Hp} {SC t : Addr} {p q C dx : Addr} {fs : List (Str × V)} {S : Spn} (h : SpanAt H SC p q S) (hd : H t = some (.ins C dx fs)) (n1 : fs.head?.map (·.1) ≠ some ("lines" : Str)) (o : OffD t H H') : SpanAt H' SC p q S := by
  obtain ⟨⟨dx', y1⟩, ⟨L, y2, y3, y4⟩, y5⟩ := h
  have wk : Wk H H' := Wk.off o hd (fun z => z)
  refine ⟨⟨dx', o _ _ (fun z => ?_) y1⟩, ⟨L, o _ _ (fun z => ?_) y2, y3, fun x hx => vecf_wk wk (y4 x hx)⟩, y5⟩
  · rw [z, hd] at y1
    have := (HO.ins.inj (Option.some.inj y1)).2.2
    rw [this] at n1
    exact n1 rfl
  · rw [z, hd] at y2; cases y2
section
variable {P : Program} {w : World} {K : PySem.W.Frag} {SC MCl GCl TCl : Addr} {H H' : Hp} {t d : Addr} {Y : TC} {C : Ctx} {M : Mac} {T : Tbl}
theorem tab_off (h : TabAt P w K SC MCl GCl TCl H t Y C M T) (o : Och d H H') (n1 : d ∉ Y.cells) (n2 : d ∉ Y.X.cells) : TabAt P w K SC MCl GCl TCl H' t Y C M T :=
  h.keep o.fch (mac_off h.mac o n2) (fun z hz u hu => o.off z u (fun e => n1 (by rw [← e]; exact hz)) hu) h.off
theorem tab_fch (h : TabAt P w K SC MCl GCl TCl H t Y C M T) (f : Frm (Y.cells ++ Y.X.cells) H H') : Fch H H' := fun b o hb n => f b o hb (fun e => by
  rcases List.mem_append.mp e with e | e
  · obtain ⟨u, hu, ck⟩ := h.ck b e
    rw [hu] at hb
    exact n (by rw [← Option.some.inj hb]; exact ck)
  · obtain ⟨u, hu, ck⟩ := mac_ck h.mac b e
    rw [hu] at hb
    exact n (by rw [← Option.some.inj hb]; exact ck))
end
def spTabI (P : Program) (w : World) (K : PySem.W.Frag) (SC MCl GCl TCl : Addr) : Sp := fun vs H Q _ => ∃ (t c dx : Addr) (ps : List Stp) (fuel : Nat) (C : Ctx) (T : Tbl), vs = [.ref t, .ref c] ∧ H t = some (.ins TCl dx []) ∧ StpsAt K H c ps ∧ ((∀ p ∈ ps, p.ok) ∧ ps.length ≤ 4) ∧ context fuel ps = some C ∧ table fuel C = some T ∧
  ∀ H' Y M, TabAt P w K SC MCl GCl TCl H' t Y C M T → OffD t H H' → Q .non H'
section
variable {P : Program} {w : World} {K : PySem.W.Frag} {mg : Str → Option Value} {base : Heap} {SC MCl GCl TCl : Addr}
abbrev NTb : List Str := ["self", "chain", "at", "row", "state", "number", "_"]
theorem scTabI : FnScope NTb ["self", "chain"] (defScope (tbM 0)) := ⟨rfl, rfl, rfl, by decide +kernel, rfl, by decide +kernel, by decide +kernel⟩
theorem ok_tabI {f fM fG fS fL fE : Addr} {fd fdM fdG fdS fdL fdE : FuncData} (F : Fun K "__init__" "Table.__init__" (tbM 0) f fd) (TT : TbT K TCl) (TM : McT K MCl) (TG : GrT K GCl) (TS : SpT K SC) (B : Blt mg)
    (MM : Mk K MCl fM) (FM : FnOk P w K mg base CX0 7 fM fdM ["self", "chain"] (spMacI P w K SC MCl)) (bM : Binds K fdM ["self", "chain"] []) (gM : mg "Machine" = some (.ref MCl))
    (MG : Mk K GCl fG) (FG : FnOk P w K mg base CX0 2 fG fdG ["self", "machine"] (spGrpI P w K SC MCl GCl)) (bG : Binds K fdG ["self", "machine"] []) (gG : mg "Groups" = some (.ref GCl))
    (MS : Mk K SC fS) (FS : FnOk P w K mg base CX0 1 fS fdS ["self"] (spSpanI SC)) (bS : Binds K fdS ["self"] []) (gS : mg "Span" = some (.ref SC))
    (CT : Cal P w K mg base CX0 5 "told_rests" ["machine", "groups"] (spToldRests P w K SC MCl GCl)) (CMo : Cal P w K mg base CX0 6 "modulus_of" ["machine", "groups", "told"] (spModulusOf P w K SC MCl GCl)) (CSt : Cal P w K mg base CX0 1 "start" ["chain"] (spStartP K))
    (GL : FnOk P w K mg base CX0 6 fL fdL ["self", "row", "state"] (spLookAt P w K SC MCl GCl TCl)) (bL : Binds K fdL ["self", "row", "state"] []) (mL : Meth K TCl "look_at" fL)
    (GE : FnOk P w K mg base CX0 7 fE fdE ["self", "row", "state", "number"] (spEntry P w K SC MCl GCl TCl)) (bE : Binds K fdE ["self", "row", "state", "number"] []) (mE : Meth K TCl "entry" fE) :
    FnOk P w K mg base CX0 9 f fd ["self", "chain"] (spTabI P w K SC MCl GCl TCl) := by
  refine F.ok scTabI (fun vs H Q E h => ?_) (fun cdv A outer s H vs Q E hr h => ?_)
  · obtain ⟨t, c, dx, ps, fuel, C, T, rfl, _⟩ := h
    rfl
  · obtain ⟨t, c, dx, ps, fuel, C, T, rfl, hi, hc, hok, hcx, hm, q⟩ := h
    have nd := scTabI.nd
    have hr1 : Room 1 _ := hr.mono (by decide)
    have hr2 : Room 2 _ := hr.mono (by decide)
    have hr3 : Room 3 _ := hr.mono (by decide)
    have hr5 : Room 5 _ := hr.mono (by decide)
    have hr6 : Room 6 _ := hr.mono (by decide)
    have hr7 : Room 7 _ := hr.mono (by decide)
    refine ⟨_, pss_cons (ps_fld (pv 0) (pv 1) rfl)
      (pss_cons (ps_fld (pv 0) (pe_make MM FM hr (by rfl) gM bM .nil pass0 (pa_cons (pv 1) pa_nil)) rfl)
      (pss_cons (ps_fld (pv 0) (pe_make MG FG hr3 (by rfl) gG bG .nil pass0 (pa_cons (pe_fld (pv 0) rfl) pa_nil)) rfl)
      (pss_cons (ps_fld (pv 0) (pe_cal CT hr5 pass0 (pa_cons (pe_fld (pv 0) rfl) (pa_cons (pe_fld (pv 0) rfl) pa_nil))) rfl)
      (pss_cons (ps_fld (pv 0) (pe_cal CMo hr6 pass0 (pa_cons (pe_fld (pv 0) rfl) (pa_cons (pe_fld (pv 0) rfl) (pa_cons (pe_fld (pv 0) rfl) pa_nil)))) rfl)
      (pss_cons (ps_fld (pv 0) (pe_frzN (pe_lc (own := [("_", 6)]) (g := gName 6) (tt := tYes) (te := tMake SC (spSpanI SC) [] E0 tNil) (by rfl) nd (pi_list (pe_fld (pe_fld (pv 0) rfl) rfl)) (blkOk_by (own := [("_", 6)]) (N := NTb) (sc := defScope (tbM 0)) (by decide +kernel)) (fun _ _ _ _ _ => pg_name (i := 6) nd rfl (Or.inl rfl))
            (fun _ _ _ _ _ => pts_nil) (fun _ _ _ _ _ => pe_make0 MS FS hr2 (by rfl) gS bS .nil pass0))) rfl)
      (pss_cons (ps_fld (pv 0) (pe_lst pa_nil) rfl)
      (pss_cons (ps_fld (pv 0) (pe_lst pa_nil) rfl)
      (pss_cons (ps_fld (pv 0) (pe_lst pa_nil) rfl)
      (pss_cons (ps_expr (pe_meth (pv 0) TT.cl mL GL hr6 bL .nil pass0 (pa_cons (pe_tup pa_nil) (pa_cons (pe_cal CSt hr1 pass0 (pa_cons (pv 1) pa_nil)) pa_nil))))
      (pss_one (ps_while PassesOwn.never (pt_cmp (pc_lt (pe_callB call_len (by rfl) B.len PySem.boot_len (pa_cons (pe_fld (pv 0) rfl) pa_nil)) (pe_callB call_len (by rfl) B.len PySem.boot_len (pa_cons (pe_fld (pv 0) rfl) pa_nil))))
        (pss_cons (ps_set (i := 2) nd rfl (Or.inl rfl) (pe_callB call_len (by rfl) B.len PySem.boot_len (pa_cons (pe_fld (pv 0) rfl) pa_nil)))
        (pss_cons (ps_asg (pe_tup (pa_cons (pe_ix (r := rIxT K) ix_tup (pe_ix (r := rIxL K) ix_list (pe_fld (pv 0) rfl) (pv 2) (fun _ _ => rfl)) pe_int (fun _ _ => rfl)) (pa_cons (pe_ix (r := rIxL K) ix_list (pe_fld (pv 0) rfl) (pv 2) (fun _ _ => rfl)) pa_nil))) (pg_tup rfl (pgs_cons (pg_name (i := 3) nd rfl (Or.inr rfl)) (pgs_cons (pg_name (i := 4) nd rfl (Or.inr rfl)) pgs_nil))))
        (pss_one (ps_expr (pe_bm PySem.F.plainAttrs_list PySem.F.slot_list_append PySem.F.type_list_append mt_append (pe_fld (pv 0) rfl) (pa_cons (pe_callTy call_tuple_of (by rfl) B.tuple (by decide +kernel) (pa_cons
          (pe_lc (own := [("number", 5)]) (g := gName 5) (tt := tYes) (te := tMeth TCl "entry" (spEntry P w K SC MCl GCl TCl) [] E0 (tVar 0) (tCons (tVar 3) (tCons (tVar 4) (tCons (tVar 5) tNil)))) (by rfl) nd (pi_range1 (by rfl) B.range (pa_cons (pe_op op_mulW pe_int (pe_fld (pv 0) rfl)) pa_nil)) (blkOk_by (own := [("number", 5)]) (N := NTb) (sc := defScope (tbM 0)) (by decide +kernel)) (fun _ _ _ _ _ => pg_name (i := 5) nd rfl (Or.inl rfl))
            (fun _ _ _ _ _ => pts_nil) (fun _ _ _ _ _ => pe_meth (pv 0) TT.cl mE GE hr7 bE .nil pass0 (pa_cons (pv 3) (pa_cons (pv 4) (pa_cons (pv 5) pa_nil))))) pa_nil)) pa_nil))))))))))))))))), ?_⟩
    have nl : (some ("chain" : Str)) ≠ some ("lines" : Str) := by decide +kernel
    have nf : (some ("chain" : Str)) ≠ some ("firsts" : Str) := by decide +kernel
    have nm : (some ("machine" : Str)) ≠ some ("moduli" : Str) := by decide +kernel
    have hsz : 200000 < sizeLine := by rw [sizeLine_eq]; omega
    unfold context at hcx
    obtain ⟨M, hmach, hcx⟩ := bnd_some.mp hcx
    obtain ⟨G, hgr, hcx⟩ := bnd_some.mp hcx
    obtain ⟨told, hto, hcx⟩ := bnd_some.mp hcx
    obtain ⟨md, hmd, hcx⟩ := bnd_some.mp hcx
    obtain rfl := Option.some.inj hcx
    obtain ⟨H1, e1⟩ : ∃ H1, H1 = upd H t (.ins TCl dx [("chain", .ref c)]) := ⟨_, rfl⟩
    have o1 : OffD t H H1 := by rw [e1]; exact OffD.upd (fun _ _ _ h => h)
    have i1 : H1 t = some (.ins TCl dx [("chain", .ref c)]) := by rw [e1]; exact upd_same
    refine ⟨_, rfl, _, rfl, t, TCl, dx, [], rfl, hi, TT.cl, TT.nc, (by show 0 < 1000; decide), ?_⟩
    refine h_swap e1 ?_
    have hc1 := stps_off o1 hi hc
    refine ⟨_, rfl, fun x dm hx hdm hne => ?_⟩
    obtain ⟨H2, e2⟩ : ∃ H2, H2 = upd (upd H1 dm (.own x)) x (.ins MCl dm []) := ⟨_, rfl⟩
    have i2x : H2 x = some (.ins MCl dm []) := by rw [e2]; exact upd_same
    have s12 : Same H1 H2 := (make_same hx hdm hne e2 (fun _ _ _ h => h)).2
    refine ⟨x, c, dm, ps, fuel, M, rfl, upd_same, stps_same hc1 (by rw [e2] at s12; exact s12), hok, hmach, fun H3 X hM3 o3 hcl3 => ⟨rfl, ?_⟩⟩
    have o3 : OffD x H2 H3 := by rw [e2]; exact o3
    have hcl3 : ∀ z ∈ X.cells, H2 z = none := by rw [e2]; exact hcl3
    have s13 := (make_same hx hdm hne e2 o3).1
    have hcl1 : ∀ z ∈ X.cells, H1 z = none := fun z hz => none_same s12 (hcl3 z hz)
    clear e2 s12 hcl3 o3 i2x hx hdm hne
    have i3 := s13 _ _ i1
    refine ⟨_, rfl, t, TCl, dx, _, rfl, i3, TT.cl, TT.nma, (by show 1 < 1000; decide), ?_⟩
    obtain ⟨H4, e4⟩ : ∃ H4, H4 = upd H3 t (.ins TCl dx [("chain", .ref c), ("machine", .ref x)]) := ⟨_, rfl⟩
    have o4 : OffD t H3 H4 := by rw [e4]; exact OffD.upd (fun _ _ _ h => h)
    have i4 : H4 t = some (.ins TCl dx [("chain", .ref c), ("machine", .ref x)]) := by rw [e4]; exact upd_same
    refine h_swap e4 ?_
    have hM4 := mac_insG hM3 i3 nl (fun z => nomatch z) o4
    clear hM3
    refine ⟨_, rfl, t, TCl, dx, _, _, rfl, i4, TT.cl, TT.nma, rfl, fun y dg hy hdg hne => ?_⟩
    obtain ⟨H5, e5⟩ : ∃ H5, H5 = upd (upd H4 dg (.own y)) y (.ins GCl dg []) := ⟨_, rfl⟩
    have i5y : H5 y = some (.ins GCl dg []) := by rw [e5]; exact upd_same
    have s45 : Same H4 H5 := (make_same hy hdg hne e5 (fun _ _ _ h => h)).2
    refine ⟨y, x, dg, X, ps, M, G, rfl, upd_same, hM4.same (by rw [e5] at s45; exact s45), hgr, fun H6 hG6 o6 => ⟨rfl, ?_⟩⟩
    have o6 : OffD y H5 H6 := by rw [e5]; exact o6
    have s46 := (make_same hy hdg hne e5 o6).1
    have hM6 := mac_ins (hM4.same s45) i5y o6
    clear e5 s45 o6 i5y hy hdg hne hM4
    have i6 := s46 _ _ i4
    refine ⟨_, rfl, t, TCl, dx, _, rfl, i6, TT.cl, TT.ng, (by show 2 < 1000; decide), ?_⟩
    obtain ⟨H7, e7⟩ : ∃ H7, H7 = upd H6 t (.ins TCl dx [("chain", .ref c), ("machine", .ref x), ("groups", .ref y)]) := ⟨_, rfl⟩
    have o7 : OffD t H6 H7 := by rw [e7]; exact OffD.upd (fun _ _ _ h => h)
    have i7 : H7 t = some (.ins TCl dx [("chain", .ref c), ("machine", .ref x), ("groups", .ref y)]) := by rw [e7]; exact upd_same
    refine h_swap e7 ?_
    have hM7 := mac_insG hM6 i6 nl nm o7
    have hG7 := grp_insG hG6 i6 nf o7
    clear hM6 hG6
    refine ⟨_, rfl, t, TCl, dx, _, _, rfl, i7, TT.cl, TT.nma, rfl, _, rfl, t, TCl, dx, _, _, rfl, i7, TT.cl, TT.ng, rfl, x, y, X, ps, M, G, fuel, told, rfl, hM7, hG7, hto, fun ta H8 s8 hta => ?_⟩
    have i8 := s8 _ _ i7
    refine ⟨_, rfl, t, TCl, dx, _, rfl, i8, TT.cl, TT.nt, (by show 3 < 1000; decide), ?_⟩
    obtain ⟨H9, e9⟩ : ∃ H9, H9 = upd H8 t (.ins TCl dx [("chain", .ref c), ("machine", .ref x), ("groups", .ref y), ("told", .ref ta)]) := ⟨_, rfl⟩
    have o9 : OffD t H8 H9 := by rw [e9]; exact OffD.upd (fun _ _ _ h => h)
    have i9 : H9 t = some (.ins TCl dx [("chain", .ref c), ("machine", .ref x), ("groups", .ref y), ("told", .ref ta)]) := by rw [e9]; exact upd_same
    refine h_swap e9 ?_
    have hM9 := mac_insG (hM7.same s8) i8 nl nm o9
    have hG9 := grp_insG (hG7.fch (Fch.of s8)) i8 nf o9
    have hta9 := hta.wk fst_RBld (Wk.off o9 i8 (fun z => z))
    refine ⟨_, rfl, t, TCl, dx, _, _, rfl, i9, TT.cl, TT.nma, rfl, _, rfl, t, TCl, dx, _, _, rfl, i9, TT.cl, TT.ng, rfl, _, rfl, t, TCl, dx, _, _, rfl, i9, TT.cl, TT.nt, rfl, x, y, ta, X, ps, M, G, told, md, rfl, hM9, hG9, hta9, hmd, fun H10 s10 => ?_⟩
    have i10 := s10 _ _ i9
    refine ⟨_, rfl, t, TCl, dx, _, rfl, i10, TT.cl, TT.nm, (by show 4 < 1000; decide), ?_⟩
    obtain ⟨H11, e11⟩ : ∃ H11, H11 = upd H10 t (.ins TCl dx [("chain", .ref c), ("machine", .ref x), ("groups", .ref y), ("told", .ref ta), ("modulus", .int md)]) := ⟨_, rfl⟩
    have o11 : OffD t H10 H11 := by rw [e11]; exact OffD.upd (fun _ _ _ h => h)
    have i11 : H11 t = some (.ins TCl dx [("chain", .ref c), ("machine", .ref x), ("groups", .ref y), ("told", .ref ta), ("modulus", .int md)]) := by rw [e11]; exact upd_same
    refine h_swap e11 ?_
    have hM11 := mac_insG (hM9.same s10) i10 nl nm o11
    have hG11 := grp_insG (hG9.fch (Fch.of s10)) i10 nf o11
    have hta11 := (hta9.wk fst_RBld (Wk.of s10)).wk fst_RBld (Wk.off o11 i10 (fun z => z))
    have oH11 : OffD t H H11 := ((((((o1.trans (OffD.same s13)).trans o4).trans (OffD.same s46)).trans o7).trans (OffD.same s8)).trans o9 |>.trans (OffD.same s10)).trans o11
    have hc11 := stps_off oH11 hi hc
    have hXH : ∀ z ∈ X.cells, H z = none := fun z hz => by
      cases y : H z with
      | none => rfl
      | some o =>
        have h2 := hcl1 z hz
        by_cases zt : z = t
        · rw [zt, i1] at h2; cases h2
        · rw [o1 z o zt y] at h2; cases h2
    clear hM9 hG9 hta9 hta hM7 hG7 e1 e4 e7 e9 e11 o1 o4 o7 o9 o11 s13 s46 s8 s10 i1 i3 i4 i6 i7 i8 i9 i10 hc1 hcl1
    have step : ∀ {Ha Hb : Hp} {fs : List (Str × V)}, (MacAt P w K SC MCl Ha x X ps M ∧ GrpAt K GCl Ha y G ∧ FL (RBld K) Ha ta told ∧ StpsAt K Ha c ps) → Ha t = some (.ins TCl dx (("chain", .ref c) :: ("machine", .ref x) :: fs)) → OffD t Ha Hb → (MacAt P w K SC MCl Hb x X ps M ∧ GrpAt K GCl Hb y G ∧ FL (RBld K) Hb ta told ∧ StpsAt K Hb c ps) := fun ⟨k1, k2, k3, k4⟩ ht o =>
      ⟨mac_insG k1 ht nl nm o, grp_insG k2 ht nf o, k3.wk fst_RBld (Wk.off o ht (fun z => z)), stps_off o ht k4⟩
    have B11 := (⟨hM11, hG11, hta11, hc11⟩ : MacAt P w K SC MCl H11 x X ps M ∧ GrpAt K GCl H11 y G ∧ FL (RBld K) H11 ta told ∧ StpsAt K H11 c ps)
    obtain ⟨dg, fa, oa, ca, aa, g1, g2, g3, g4, g5⟩ := hG11
    obtain ⟨cvs, co, c1, c2⟩ := g4
    have hcvl := c2.len
    unfold table at hm
    obtain ⟨_, hg, hm⟩ := bnd_some.mp hm
    obtain ⟨⟨⟨M1, T1⟩, mix1⟩, hlk, hm⟩ := bnd_some.mp hm
    obtain ⟨⟨Mf, Tf⟩, hloop, hm⟩ := bnd_some.mp hm
    have hm : Tf = T := Option.some.inj hm
    subst hm
    have hg := grd_some.mp hg
    rw [Bool.and_eq_true, decide_eq_true_eq, decide_eq_true_eq] at hg
    obtain ⟨hg1, hg2, hg3⟩ := hg
    have hg1 : G.counts.length < 100000 := hg1
    have hg2 : 0 ≤ md := hg2
    have hg3 : md ≤ 1000 := hg3
    refine ⟨_, rfl, t, TCl, dx, _, _, rfl, i11, TT.cl, TT.ng, rfl, y, GCl, dg, _, _, rfl, g1, TG.cl, TG.nc, rfl, ca, rfl, ⟨_, .inl (.inr ⟨co, c1⟩)⟩, fun D hD => ?_⟩
    refine lc_it (walk_list (K := K) (a := ca) (xs := cvs)) (fun i G' => Same H11 G' ∧ ∃ ss : List (Addr × Addr), G' D = some (.lst (ss.map fun p => V.ref p.1)) ∧ ss.length = i ∧ (ss.map fun p : Addr × Addr => p.2).Nodup ∧ (∀ p ∈ ss, H11 p.2 = none) ∧ (∀ p ∈ ss, SpanAt G' SC p.1 p.2 []) ∧ D ∉ ss.map fun p : Addr × Addr => p.2)
      ⟨same_upd (Same.refl H11) hD, [], upd_same, rfl, List.nodup_nil, fun p hp => absurd hp List.not_mem_nil, fun p hp => absurd hp List.not_mem_nil, List.not_mem_nil⟩ (fun i G' _ p => .inl (.inr ⟨co, p.1 _ _ c1⟩)) ?_ ?_
    · rintro i xv G1 G2 hi' ⟨s1, ss, hss, hsl, hnd, hnew, hsp, hDn⟩ ⟨rfl, hx⟩
      refine ⟨rfl, fun x2 d2 hx2 hd2 hne2 => ⟨x2, d2, rfl, upd_same, fun dd hdd => ⟨rfl, ?_⟩⟩⟩
      obtain ⟨G3, e3⟩ : ∃ G3, G3 = upd (upd (upd (upd G2 d2 (.own x2)) x2 (.ins SC d2 [])) dd (.dK [])) x2 (.ins SC d2 [("lines", .ref dd)]) := ⟨_, rfl⟩
      obtain ⟨s3, hsp3, hdd2, hddx⟩ := span_new hx2 hd2 hne2 hdd e3
      rw [← e3]
      have h3 := s3 _ _ hss
      have nDd : D ≠ dd := fun z => by rw [← z, hss] at hdd2; cases hdd2
      have oc : Och D G3 (upd G3 D (.lst ((ss.map fun p => V.ref p.1) ++ [.ref x2]))) := ⟨OffD.upd (fun _ _ _ h => h), ⟨_, h3, True.intro⟩⟩
      have ddn : dd ∉ ss.map (·.2) := fun z => by
        obtain ⟨p, hp, e⟩ := List.mem_map.mp z
        obtain ⟨L, hL, _⟩ := (hsp p hp).lns
        rw [e, hdd2] at hL
        cases hL
      refine ⟨_, h3, by rw [List.length_map]; omega, Same.updn (Same.trans s1 s3) hD, ss ++ [(x2, dd)], by rw [upd_same, List.map_append]; rfl, by rw [List.length_append, hsl]; rfl, ?_, fun p hp => ?_, fun p hp => ?_, fun hp => ?_⟩
      · rw [List.map_append, List.nodup_append]
        exact ⟨hnd, by simp, fun a ha b hb => by
          have : b = dd := by simpa using hb
          rw [this]
          exact fun z => ddn (by rw [← z]; exact ha)⟩
      · rcases List.mem_append.mp hp with hp | hp
        · exact hnew p hp
        · rw [List.mem_singleton.mp hp]
          exact none_same s1 hdd2
      · rcases List.mem_append.mp hp with hp | hp
        · exact span_och oc (fun z => hDn (by rw [← z]; exact List.mem_map.mpr ⟨p, hp, rfl⟩)) ((hsp p hp).same s3)
        · rw [List.mem_singleton.mp hp]
          exact span_och oc (fun z => nDd z.symm) hsp3
      · rw [List.map_append] at hp
        rcases List.mem_append.mp hp with hp | hp
        · exact hDn hp
        · exact nDd (by simpa using hp)
    rintro H12 ⟨s12, ss, hss, hsl, hnd, hnew, hsp, hDn⟩
    refine .inr ⟨D, _, rfl, hss, True.intro, fun oD => ?_⟩
    have oc13 : Och D H12 (upd H12 D (.frz oD (.lst (ss.map fun p => V.ref p.1)))) := ⟨OffD.upd (fun _ _ _ h => h), ⟨_, hss, True.intro⟩⟩
    have s13 : Same H11 (upd H12 D (.frz oD (.lst (ss.map fun p => V.ref p.1)))) := Same.updn s12 hD
    have d13 : upd H12 D (.frz oD (.lst (ss.map fun p => V.ref p.1))) D = some (.frz oD (.lst (ss.map fun p => V.ref p.1))) := upd_same
    have hsp13 : ∀ p ∈ ss, SpanAt (upd H12 D (.frz oD (.lst (ss.map fun p => V.ref p.1)))) SC p.1 p.2 [] := fun p hp => span_och oc13 (fun z => hDn (by rw [← z]; exact List.mem_map.mpr ⟨p, hp, rfl⟩)) (hsp p hp)
    generalize upd H12 D (.frz oD (.lst (ss.map fun p => V.ref p.1))) = H13 at oc13 s13 d13 hsp13 ⊢
    have i13 := s13 _ _ i11
    have B13 := (⟨B11.1.same s13, B11.2.1.fch (Fch.of s13), B11.2.2.1.wk fst_RBld (Wk.of s13), stps_same B11.2.2.2 s13⟩ : MacAt P w K SC MCl H13 x X ps M ∧ GrpAt K GCl H13 y G ∧ FL (RBld K) H13 ta told ∧ StpsAt K H13 c ps)
    refine ⟨_, rfl, t, TCl, dx, _, rfl, i13, TT.cl, TT.ns, (by show 5 < 1000; decide), ?_⟩
    obtain ⟨H14, e14⟩ : ∃ H14, H14 = upd H13 t (.ins TCl dx [("chain", .ref c), ("machine", .ref x), ("groups", .ref y), ("told", .ref ta), ("modulus", .int md), ("spans", .ref D)]) := ⟨_, rfl⟩
    have o14 : OffD t H13 H14 := by rw [e14]; exact OffD.upd (fun _ _ _ h => h)
    have i14 : H14 t = some (.ins TCl dx [("chain", .ref c), ("machine", .ref x), ("groups", .ref y), ("told", .ref ta), ("modulus", .int md), ("spans", .ref D)]) := by rw [e14]; exact upd_same
    refine h_swap e14 ?_
    have B14 := step B13 i13 o14
    have d14 := (Wk.off o14 i13 (fun z => z)) _ _ d13 True.intro
    have hsp14 : ∀ p ∈ ss, SpanAt H14 SC p.1 p.2 [] := fun p hp => span_off (hsp13 p hp) i13 nl o14
    refine ⟨(by show 0 ≤ sizeLine; omega), fun bs nbs => ?_⟩
    obtain ⟨H15, e15⟩ : ∃ H15, H15 = upd (upd H14 bs (.lst [])) t (.ins TCl dx [("chain", .ref c), ("machine", .ref x), ("groups", .ref y), ("told", .ref ta), ("modulus", .int md), ("spans", .ref D), ("basis", .ref bs)]) := ⟨_, rfl⟩
    obtain ⟨i15, bs15, f15, j15⟩ := fld_step i14 nbs e15
    refine ⟨_, rfl, t, TCl, dx, _, rfl, j15, TT.cl, TT.nb, (by show 6 < 1000; decide), ?_⟩
    refine h_swap e15 ?_
    have B15 := step B14 i14 f15
    have d15 := (Wk.off f15 i14 (fun z => z)) _ _ d14 True.intro
    have hsp15 : ∀ p ∈ ss, SpanAt H15 SC p.1 p.2 [] := fun p hp => span_off (hsp14 p hp) i14 nl f15
    refine ⟨(by show 0 ≤ sizeLine; omega), fun st nst => ?_⟩
    obtain ⟨H16, e16⟩ : ∃ H16, H16 = upd (upd H15 st (.lst [])) t (.ins TCl dx [("chain", .ref c), ("machine", .ref x), ("groups", .ref y), ("told", .ref ta), ("modulus", .int md), ("spans", .ref D), ("basis", .ref bs), ("states", .ref st)]) := ⟨_, rfl⟩
    obtain ⟨i16, st16, f16, j16⟩ := fld_step i15 nst e16
    refine ⟨_, rfl, t, TCl, dx, _, rfl, j16, TT.cl, TT.nst, (by show 7 < 1000; decide), ?_⟩
    refine h_swap e16 ?_
    have B16 := step B15 i15 f16
    have d16 := (Wk.off f16 i15 (fun z => z)) _ _ d15 True.intro
    have hsp16 : ∀ p ∈ ss, SpanAt H16 SC p.1 p.2 [] := fun p hp => span_off (hsp15 p hp) i15 nl f16
    refine ⟨(by show 0 ≤ sizeLine; omega), fun en nen => ?_⟩
    obtain ⟨H17, e17⟩ : ∃ H17, H17 = upd (upd H16 en (.lst [])) t (.ins TCl dx [("chain", .ref c), ("machine", .ref x), ("groups", .ref y), ("told", .ref ta), ("modulus", .int md), ("spans", .ref D), ("basis", .ref bs), ("states", .ref st), ("entries", .ref en)]) := ⟨_, rfl⟩
    obtain ⟨i17, en17, f17, j17⟩ := fld_step i16 nen e17
    refine ⟨_, rfl, t, TCl, dx, _, rfl, j17, TT.cl, TT.ne, (by show 8 < 1000; decide), ?_⟩
    refine h_swap e17 ?_
    have B17 := step B16 i16 f17
    have d17 := (Wk.off f17 i16 (fun z => z)) _ _ d16 True.intro
    have hsp17 : ∀ p ∈ ss, SpanAt H17 SC p.1 p.2 [] := fun p hp => span_off (hsp16 p hp) i16 nl f17
    have nbt : bs ≠ t := fun z => by rw [z, i14] at nbs; cases nbs
    have nst' : st ≠ t := fun z => by rw [z, i15] at nst; cases nst
    have net : en ≠ t := fun z => by rw [z, i16] at nen; cases nen
    have bs16 := f16 _ _ nbt bs15
    have bs17 := f17 _ _ nbt bs16
    have st17 := f17 _ _ nst' st16
    have o1417 : OffD t H14 H17 := (f15.trans f16).trans f17
    have oH14 : OffD t H H14 := (oH11.trans (OffD.same s13)).trans o14
    have oH17 : OffD t H H17 := oH14.trans o1417
    have h0 : ∀ {G' : Hp} {z : Addr}, OffD t H G' → z ≠ t → G' z = none → H z = none := fun {G' z} o n hz => by
      cases y : H z with
      | none => rfl
      | some u => rw [o z u n y] at hz; cases hz
    have o1517 : OffD t H15 H17 := f16.trans f17
    have hss_at : ∀ {G' : Hp}, (∀ p ∈ ss, SpanAt G' SC p.1 p.2 []) → ∀ z ∈ ss.map (fun p : Addr × Addr => p.2), ∃ o, G' z = some o := fun h z hz => by
      obtain ⟨p, hp, rfl⟩ := List.mem_map.mp hz
      obtain ⟨L, hL, _⟩ := (h p hp).lns
      exact ⟨_, hL⟩
    have nin : ∀ {G' : Hp} {z : Addr}, (∀ p ∈ ss, SpanAt G' SC p.1 p.2 []) → G' z = none → z ∉ ss.map (fun p : Addr × Addr => p.2) := fun h hz hm => by
      obtain ⟨o, ho⟩ := hss_at h _ hm
      rw [hz] at ho
      cases ho
    have nX : ∀ {G' : Hp} {z : Addr}, MacAt P w K SC MCl G' x X ps M → G' z = none → z ∉ X.cells := fun h hz hm => by
      obtain ⟨o, ho, _⟩ := mac_ck h _ hm
      rw [hz] at ho
      cases ho
    have hT17 : TabAt P w K SC MCl GCl TCl H17 t ⟨c, x, y, ta, md, D, bs, st, en, ss, X⟩ ⟨ps, M, G, told, md⟩ M ⟨G.counts.map fun _ => [], [], [], []⟩ := by
      refine ⟨⟨dx, i17⟩, B17.1, B17.2.1, B17.2.2.1, rfl, B17.2.2.2, ⟨⟨oD, d17⟩, by show ss.length = (G.counts.map _).length; rw [List.length_map, hsl]; exact hcvl, fun i p S e1 e2 => ?_⟩, ⟨[], bs17, .nil⟩, ⟨[], st17, .nil⟩, ⟨[], en17, .nil⟩, ?_, fun z hz => ?_⟩
      · have e2 : (G.counts.map fun _ => ([] : Spn))[i]? = some S := e2
        rw [List.getElem?_map] at e2
        obtain ⟨cc, _, rfl⟩ := Option.map_eq_some_iff.mp e2
        exact hsp17 p (List.mem_of_getElem? e1)
      · show (bs :: st :: en :: ss.map (fun p : Addr × Addr => p.2)).Nodup
        simp only [List.nodup_cons, List.mem_cons, not_or]
        exact ⟨⟨ne_of_none bs15 nst, ne_of_none bs16 nen, nin hsp14 nbs⟩, ⟨ne_of_none st16 nen, nin hsp15 nst⟩, nin hsp16 nen, hnd⟩
      · rcases tc_mem.mp hz with e | e | e | e
        · rw [e]; exact nX B14.1 nbs
        · rw [e]; exact nX B15.1 nst
        · rw [e]; exact nX B16.1 nen
        · obtain ⟨p, hp, rfl⟩ := List.mem_map.mp e
          exact nX B11.1 (hnew p hp)
    have hYH : ∀ z ∈ (⟨c, x, y, ta, md, D, bs, st, en, ss, X⟩ : TC).cells, H z = none := fun z hz => by
      rcases tc_mem.mp hz with e | e | e | e
      · rw [e]; exact h0 oH14 nbt nbs
      · rw [e]; exact h0 (oH14.trans f15) nst' nst
      · rw [e]; exact h0 ((oH14.trans f15).trans f16) net nen
      · obtain ⟨p, hp, rfl⟩ := List.mem_map.mp e
        exact h0 oH11 (fun z => by have := hnew p hp; rw [z, i11] at this; cases this) (hnew p hp)
    clear B11 B13 B14 B15 B16 hsp hsp13 hsp14 hsp15 hsp16 hsp17 d13 d14 d15 d16 bs15 bs16 st16 j15 j16 j17 e14 e15 e16 e17 i13 i14 i15 i16 nin nX hss_at
    have hYX : (⟨c, x, y, ta, md, D, bs, st, en, ss, X⟩ : TC).X = X := rfl
    have hY3 : (⟨c, x, y, ta, md, D, bs, st, en, ss, X⟩ : TC).m = md := rfl
    have frm : ∀ {G1 G2 : Hp} {Y : TC} {Xa : MC}, OffD t H G1 → (∀ z ∈ Y.cells, H z = none) → (∀ z ∈ Xa.cells, H z = none) → Frm (Y.cells ++ Xa.cells) G1 G2 → OffD t H G2 := fun {G1 G2 Y Xa} o hY hX f b ob hb h => f b ob (o b ob hb h) (fun z => by
      rcases List.mem_append.mp z with z | z
      · rw [hY b z] at h; cases h
      · rw [hX b z] at h; cases h)
    have cel : ∀ {G1 : Hp} {Xa Xb : MC}, OffD t H G1 → (∃ o, G1 t = some o) → (∀ z ∈ Xa.cells, H z = none) → (∀ z ∈ Xb.cells, z ∈ Xa.cells ∨ G1 z = none) → (∀ z ∈ Xb.cells, H z = none) := fun {G1 Xa Xb} o ⟨ot, ht⟩ hX h z hz => by
      rcases h z hz with e | e
      · exact hX z e
      · exact h0 o (fun e2 => by rw [e2, ht] at e; cases e) e
    refine ⟨_, rfl, t, dx, _, rfl, i17, rfl, (by show 0 ≤ sizeLine; omega), fun ra nra => ?_⟩
    have s18 := same_upd (o := .tup []) (Same.refl H17) nra
    refine ⟨_, rfl, c, ps, rfl, stps_same B17.2.2.2 s18, by have := hok.2; omega, fun sa H19 s19 hsa => ?_⟩
    have s179 := Same.trans s18 s19
    have hra19 : SqT K H19 ra (([] : List Int).map V.int) := sqt_same s19 sqt_new
    generalize hYd : (⟨c, x, y, ta, md, D, bs, st, en, ss, X⟩ : TC) = Y at hT17 hYH hYX hY3
    refine ⟨t, ra, sa, Y, ⟨ps, M, G, told, md⟩, M, M1, _, T1, [], startM ps, mix1, rfl, hT17.same s179, hra19, ⟨[], (stOf_nil ps).symm, hsa⟩, hlk, fun v20 H20 X20 hT20 fr20 hc20 _ => ?_⟩
    have oH19 : OffD t H H19 := oH17.trans (OffD.same s179)
    have hX20 : ∀ z ∈ X20.cells, H z = none := cel oH19 ⟨_, s179 _ _ i17⟩ hXH (by rw [hYX] at hc20; exact hc20)
    have oH20 : OffD t H H20 := frm oH19 hYH (by rw [hYX]; exact hXH) fr20
    refine ⟨fun m σ G' => ∃ (Ma : Mac) (Ta : Tbl) (Xa : MC) (y2 y3 y4 : Option V), σ = [some (.ref t), some (.ref c), y2, y3, y4, none, none] ∧ TabAt P w K SC MCl GCl TCl G' t { Y with X := Xa } ⟨ps, M, G, told, md⟩ Ma Ta ∧ OffD t H G' ∧ (∀ z ∈ Xa.cells, H z = none) ∧ tableLoop ⟨ps, M, G, told, md⟩ m (Ma, Ta) = some (Mf, Tf),
      ⟨fuel, M1, T1, X20, none, none, none, rfl, hT20, oH20, hX20, hloop⟩, ?_⟩
    clear hT20 oH20 hX20 hloop fr20 hc20 hT17 hlk hra19 hsa s179 s18 s19 oH19
    rintro m σ G1 ⟨Ma, Ta, Xa, y2, y3, y4, rfl, hT, oG, hXa, hloop⟩
    obtain ⟨dxa, ia⟩ := hT.ins
    obtain ⟨eus, en1, en2⟩ := hT.entries
    obtain ⟨bus, bs1, bs2⟩ := hT.basis
    obtain ⟨sus, st1, st2⟩ := hT.states
    have enl := en2.len
    have bsl := bs2.len
    have stl := st2.len
    refine ⟨_, rfl, t, TCl, dxa, _, _, rfl, ia, TT.cl, TT.ne, rfl, _, _, rfl, .inl ⟨_, SqL.of en1, rfl⟩, ?_⟩
    refine ⟨_, rfl, t, TCl, dxa, _, _, rfl, ia, TT.cl, TT.nb, rfl, _, _, rfl, .inl ⟨_, SqL.of bs1, rfl⟩, ?_⟩
    refine ⟨_, _, rfl, rfl, _, rfl, ?_⟩
    cases m with
    | zero => cases hloop
    | succ n =>
      unfold tableLoop at hloop
      cases hb : Ta.basis[Ta.entries.length]? with
      | none =>
        rw [hb] at hloop
        have hloop : some (Ma, Ta) = some (Mf, Tf) := hloop
        cases hloop
        rw [List.getElem?_eq_none_iff] at hb
        refine iteF' (decide_eq_false (by omega)) ?_
        exact q G1 { Y with X := Xa } _ hT oG
      | some brow =>
        cases hst : Ta.states[Ta.entries.length]? with
        | none =>
          simp only [hb, hst] at hloop
          cases hloop
        | some sst =>
          simp only [hb, hst] at hloop
          obtain ⟨⟨⟨Mr, Tr⟩, rr⟩, hrow, hloop⟩ := bnd_some.mp hloop
          obtain ⟨_, hgl, hloop⟩ := bnd_some.mp hloop
          have hgl : Tr.entries.length < 100000 := of_decide_eq_true (grd_some.mp hgl)
          have lt := get_lt hb
          refine iteT' (decide_eq_true (by omega)) ?_
          refine ⟨_, fun σ' H' h => ⟨n, Nat.lt_succ_self n, h⟩, ?_⟩
          obtain ⟨bv, hbv, ba, br, rfl, hba, hbr⟩ := bs2.get hb
          obtain ⟨sv, hsv, sb, rfl, hsb⟩ := st2.get hst
          refine ⟨_, rfl, t, TCl, dxa, _, _, rfl, ia, TT.cl, TT.ne, rfl, _, _, rfl, .inl ⟨_, SqL.of en1, rfl⟩, ?_⟩
          refine ⟨_, rfl, t, TCl, dxa, _, _, rfl, ia, TT.cl, TT.nb, rfl, _, rfl, Y.bs, _, ((eus.length : Nat) : Int), .ref ba, rfl, rfl, SqL.of bs1, atI_nat (by rw [enl]; exact hbv), ba, _, 0, .ref br, rfl, rfl, hba, atI_nat (j := 0) rfl, _, rfl, t, TCl, dxa, _, _, rfl, ia, TT.cl, TT.nst, rfl, _, rfl, Y.st, _, ((eus.length : Nat) : Int), .ref sb, rfl, rfl, SqL.of st1, atI_nat (by rw [enl]; exact hsv), (by show 2 ≤ sizeLine; decide), fun tt ntt => ?_⟩
          have s2 := same_upd (o := .tup [V.ref br, .ref sb]) (Same.refl G1) ntt
          have hT2 := hT.same s2
          have hbr2 := sqt_same s2 hbr
          have hsb2 := st_same s2 hsb
          have en12 := s2 _ _ en1
          have ia2 := s2 _ _ ia
          have oG2 := oG.trans (OffD.same s2)
          have htt2 : SqT K (upd G1 tt (.tup [V.ref br, .ref sb])) tt [V.ref br, .ref sb] := sqt_new
          generalize upd G1 tt (.tup [V.ref br, .ref sb]) = G2 at s2 hT2 hbr2 hsb2 en12 ia2 oG2 htt2 ⊢
          refine ⟨tt, _, rfl, htt2, rfl, _, _, rfl, _, _, rfl, rfl, ?_⟩
          refine ⟨_, rfl, t, TCl, dxa, _, _, rfl, ia2, TT.cl, TT.ne, rfl, .inl ⟨rfl, _, SqL.of en12⟩, ?_⟩
          have m1000 : md.natAbs < 2 ^ 2000 := Nat.lt_of_le_of_lt (m := 1000) (by omega) (Nat.lt_of_lt_of_le (by decide : 1000 < 2 ^ 10) (Nat.pow_le_pow_right (by decide) (by decide)))
          have hmY : ({ Y with X := Xa } : TC).m = md := hY3
          refine ⟨_, rfl, t, TCl, dxa, _, _, rfl, ia2, TT.cl, TT.nm, rfl, 2, Y.m, rfl, rfl, by rw [hY3]; exact wide_mul two2000 m1000 (by decide) (by decide) (by decide), _, rfl, by rw [hY3]; clear m1000; omega, by rw [hY3]; clear m1000; omega, fun D2 hD2 => ?_⟩
          have hDt : D2 ≠ t := fun z => by rw [z, ia2] at hD2; cases hD2
          have hDY : D2 ∉ Y.cells := fun z => by
            obtain ⟨o, ho, _⟩ := hT2.ck D2 z
            rw [hD2] at ho
            cases ho
          have hDX : D2 ∉ Xa.cells := fun z => by
            obtain ⟨o, ho, _⟩ := mac_ck hT2.mac D2 z
            rw [hD2] at ho
            cases ho
          have hDH : H D2 = none := h0 oG2 hDt hD2
          refine lc_it (walk_range (lo := 0) (n := (2 * Y.m).toNat)) (fun i G' => ∃ (Mi : Mac) (Ti : Tbl) (Xi : MC) (ri : List (List Int × Mix)) (us : List V), ((upto (2 * md)).take i).foldlM (enS ⟨ps, M, G, told, md⟩ brow.1 sst) ((Ma, Ta), []) = some ((Mi, Ti), ri) ∧ TabAt P w K SC MCl GCl TCl G' t { Y with X := Xi } ⟨ps, M, G, told, md⟩ Mi Ti ∧ G' D2 = some (.lst us) ∧ Ls (REl K) G' us ri ∧ ri.length = i ∧ D2 ∉ Xi.cells ∧ OffD t H G' ∧ (∀ z ∈ Xi.cells, H z = none) ∧ Wk G2 G') ?_ (fun _ _ _ _ => True.intro) ?_ ?_
          · have s3 := same_upd (o := .lst []) (Same.refl G2) hD2
            exact ⟨Ma, Ta, Xa, [], [], rfl, hT2.same s3, upd_same, .nil, rfl, hDX, oG2.trans (OffD.same s3), hXa, Wk.of s3⟩
          · rintro i x G3 G4 hi' ⟨Mi, Ti, Xi, ri, us, hf, hTi, hDi, hls, hrl, hDn, oi, hXi, wki⟩ ⟨rfl, rfl⟩
            rw [hY3] at hi'
            obtain ⟨⟨⟨M2, T2⟩, r2⟩, hst2, hf2⟩ := foldM_step hrow (upto_get hi') hf
            unfold enS at hst2
            obtain ⟨_, hg, hst2⟩ := bnd_some.mp hst2
            have hg : brow.1.length < 100000 := of_decide_eq_true (grd_some.mp hg)
            obtain ⟨⟨⟨M3, T3⟩, mx3⟩, hlo, hst2⟩ := bnd_some.mp hst2
            cases Option.some.inj hst2
            obtain ⟨dxi, ji⟩ := hTi.ins
            have e0 : (0 : Int) + (i : Int) = i := Int.zero_add _
            refine ⟨rfl, ?_⟩
            refine ⟨_, rfl, t, dxi, _, rfl, ji, rfl, _, rfl, _, rfl, _, rfl, t, br, sb, (0 + i : Int), { Y with X := Xi }, ⟨ps, M, G, told, md⟩, Mi, M2, Ti, T2, brow.1, sst, mx3, rfl, hTi, sqt_wk wki hbr2, hg, st_wk wki hsb2, by rw [e0]; exact hlo, fun v4 G5 X5 hT5 fr5 hc5 hv5 => ?_⟩
            rw [e0] at hv5
            have hT5 : TabAt P w K SC MCl GCl TCl G5 t { Y with X := X5 } ⟨ps, M, G, told, md⟩ M2 T2 := hT5
            have fr5 : Frm (Y.cells ++ Xi.cells) G4 G5 := fr5
            have hc5 : ∀ z ∈ X5.cells, z ∈ Xi.cells ∨ G4 z = none := hc5
            have f5 : Fch G4 G5 := tab_fch hTi fr5
            have hD5 := fr5 D2 _ hDi (fun z => by
              rcases List.mem_append.mp z with z | z
              · exact hDY z
              · exact hDn z)
            have nD5 : D2 ∉ X5.cells := fun z => by
              rcases hc5 D2 z with e | e
              · exact hDn e
              · rw [hDi] at e; cases e
            have oc : Och D2 G5 (upd G5 D2 (.lst (us ++ [v4]))) := ⟨OffD.upd (fun _ _ _ h => h), ⟨_, hD5, True.intro⟩⟩
            have o5 : OffD t H G5 := frm oi hYH hXi fr5
            have hul := hls.len
            refine ⟨_, hD5, ?_, M2, T2, X5, _, us ++ [v4], hf2, tab_off hT5 oc hDY nD5, upd_same, ((hls.wk fst_REl f5.wk).snoc hv5).wk fst_REl oc.fch.wk, by rw [List.length_append, hrl]; rfl, nD5, fun b ob hb h => ?_, cel oi ⟨_, ji⟩ hXi hc5, (wki.trans f5.wk).trans oc.fch.wk⟩
            · clear m1000
              omega
            · rw [upd_ne (ne_of_none h hDH)]
              exact o5 _ _ hb h
          · rintro G3 ⟨Mi, Ti, Xi, ri, us, hf, hTi, hDi, hls, hrl, hDn, oi, hXi, wki⟩
            have eT : (upto (2 * md)).take (2 * Y.m).toNat = upto (2 * md) := by rw [hY3]; exact List.take_of_length_le (Nat.le_of_eq (upto_len _))
            have hrow' : (upto (2 * md)).foldlM (enS ⟨ps, M, G, told, md⟩ brow.1 sst) ((Ma, Ta), []) = some ((Mr, Tr), rr) := hrow
            rw [eT, hrow'] at hf
            cases hf
            refine ⟨D2, us, rfl, .inl ⟨SqL.of hDi, fun tp ntp => ?_⟩⟩
            have s6 := same_upd (o := .tup us) (Same.refl G3) ntp
            have hT6 := hTi.same s6
            have rt6 : RT K (REl K) (upd G3 tp (.tup us)) (.ref tp) rr := ⟨tp, rfl, us, sqt_new, hls.wk fst_REl (Wk.of s6)⟩
            have o6 := oi.trans (OffD.same s6)
            generalize upd G3 tp (.tup us) = G6 at s6 hT6 rt6 o6 ⊢
            obtain ⟨eus6, en61, en62⟩ := hT6.entries
            have el6 : eus6.length = Tr.entries.length := en62.len
            refine ⟨Y.en, _, _, rfl, rfl, en61, by clear m1000; omega, ?_⟩
            have hT7 := tab_en hT6 en61 rt6
            refine ⟨Mr, { Tr with entries := Tr.entries ++ [rr] }, Xi, _, _, _, rfl, hT7, fun b ob hb h => ?_, hXi, hloop⟩
            rw [upd_ne (fun z => ?_)]
            · exact o6 _ _ hb h
            · have := hYH Y.en (tc_mem.mpr (.inr (.inr (.inl rfl))))
              rw [z, this] at h
              cases h
end
end FC
set_option Elab.async false
set_option linter.all false
set_option maxRecDepth 100000
set_option maxHeartbeats 1000000
/-! A step that is one, as a kind with its numbers. -/
namespace FC
open PySem L2
theorem within_end {xs : List V} {a : Int} (h : within [] xs a = true) : xs = [] := by
  cases xs with
  | nil => rfl
  | cons x r => cases h
theorem within_step {l : Str} {ls : List Str} {xs : List V} {a : Int} (h : within (l :: ls) xs a = true) : ∃ n r, xs = .int n :: r ∧ (lohi l a).1 ≤ n ∧ n ≤ (lohi l a).2 ∧ within ls r n = true := by
  cases xs with
  | nil => cases h
  | cons x r =>
    cases x <;> first | cases h | skip
    rename_i n
    have h : (!(decide (n < (lohi l a).1) || decide (n > (lohi l a).2)) && within ls r n) = true := h
    rw [Bool.and_eq_true, Bool.not_eq_true', Bool.or_eq_false_iff, decide_eq_false_iff_not, decide_eq_false_iff_not] at h
    exact ⟨n, r, rfl, by omega, by omega, h.2⟩
theorem lohi_a (x : Int) : lohi "a" x = (-3, 3) := rfl
theorem lohi_b (x : Int) : lohi "b" x = (-9, 9) := rfl
theorem lohi_m (x : Int) : lohi "m" x = (2, 3) := rfl
theorem lohi_k (x : Int) : lohi "k" x = (2, 3) := rfl
theorem lohi_r (x : Int) : lohi "r" x = (0, x - 1) := rfl
theorem stp_of {ys : List V} (h : stepOk ys = true) : ∃ p : Stp, ys = p.v ∧ p.ok := by
  match ys, h with
  | .str name :: rest, h =>
    have h : stepOkN name rest = true := h
    unfold stepOkN at h
    split at h
    · rename_i ls hl
      have hm := lookup_mem hl
      rw [Bool.and_eq_true] at h
      have hw := h.2
      unfold tab at hm
      simp only [List.mem_cons, List.mem_nil_iff, or_false, Prod.mk.injEq] at hm
      rcases hm with ⟨rfl, rfl⟩ | ⟨rfl, rfl⟩ | ⟨rfl, rfl⟩ | ⟨rfl, rfl⟩ | ⟨rfl, rfl⟩ | ⟨rfl, rfl⟩ | ⟨rfl, rfl⟩ | ⟨rfl, rfl⟩ | ⟨rfl, rfl⟩ | ⟨rfl, rfl⟩
      · obtain ⟨a, r1, rfl, a1, a2, hw⟩ := within_step hw
        obtain ⟨b, r2, rfl, b1, b2, hw⟩ := within_step hw
        rw [within_end hw]
        rw [lohi_a] at a1 a2
        rw [lohi_b] at b1 b2
        exact ⟨.line a b, rfl, a1, a2, b1, b2⟩
      · obtain ⟨m, r1, rfl, m1, m2, hw⟩ := within_step hw
        obtain ⟨r, r2, rfl, q1, q2, hw⟩ := within_step hw
        obtain ⟨a, r3, rfl, a1, a2, hw⟩ := within_step hw
        obtain ⟨b, r4, rfl, b1, b2, hw⟩ := within_step hw
        rw [within_end hw]
        rw [lohi_a] at a1 a2
        rw [lohi_b] at b1 b2
        rw [lohi_m] at m1 m2
        rw [lohi_r] at q1 q2
        have m1 : (2 : Int) ≤ m := m1
        have m2 : m ≤ (3 : Int) := m2
        have q2 : r ≤ m - 1 := q2
        exact ⟨.turn m r a b, rfl, by unfold two3; omega, q1, by omega, a1, a2, b1, b2⟩
      · obtain ⟨m, r1, rfl, m1, m2, hw⟩ := within_step hw
        obtain ⟨r, r2, rfl, q1, q2, hw⟩ := within_step hw
        rw [within_end hw]
        rw [lohi_m] at m1 m2
        rw [lohi_r] at q1 q2
        have m1 : (2 : Int) ≤ m := m1
        have m2 : m ≤ (3 : Int) := m2
        have q2 : r ≤ m - 1 := q2
        exact ⟨.keep m r, rfl, by unfold two3; omega, q1, by omega⟩
      · obtain ⟨m, r1, rfl, m1, m2, hw⟩ := within_step hw
        obtain ⟨r, r2, rfl, q1, q2, hw⟩ := within_step hw
        rw [within_end hw]
        rw [lohi_k] at m1 m2
        rw [lohi_r] at q1 q2
        have m1 : (2 : Int) ≤ m := m1
        have m2 : m ≤ (3 : Int) := m2
        have q2 : r ≤ m - 1 := q2
        exact ⟨.every m r, rfl, by unfold two3; omega, q1, by omega⟩
      · rw [within_end hw]
        exact ⟨.twice, rfl, trivial⟩
      · rw [within_end hw]
        exact ⟨.sums, rfl, trivial⟩
      · obtain ⟨m, r1, rfl, m1, m2, hw⟩ := within_step hw
        obtain ⟨r, r2, rfl, q1, q2, hw⟩ := within_step hw
        rw [within_end hw]
        rw [lohi_m] at m1 m2
        rw [lohi_r] at q1 q2
        have m1 : (2 : Int) ≤ m := m1
        have m2 : m ≤ (3 : Int) := m2
        have q2 : r ≤ m - 1 := q2
        exact ⟨.anew m r, rfl, by unfold two3; omega, q1, by omega⟩
      · rw [within_end hw]
        exact ⟨.gaps, rfl, trivial⟩
      · obtain ⟨m, r1, rfl, m1, m2, hw⟩ := within_step hw
        rw [within_end hw]
        rw [lohi_k] at m1 m2
        have m1 : (2 : Int) ≤ m := m1
        have m2 : m ≤ (3 : Int) := m2
        exact ⟨.groups m, rfl, by show two3 m; unfold two3; omega⟩
      · rw [within_end hw]
        exact ⟨.count, rfl, trivial⟩
    · cases h
theorem stps_of : ∀ {cs : List (List V)}, (∀ ys ∈ cs, stepOk ys = true) → ∃ ps : List Stp, cs = ps.map Stp.v ∧ ∀ p ∈ ps, p.ok
  | [], _ => ⟨[], rfl, fun p h => by cases h⟩
  | ys :: r, h => by
    obtain ⟨p, e, hp⟩ := stp_of (h ys (by simp))
    obtain ⟨ps, e2, h2⟩ := stps_of (cs := r) fun z hz => h z (List.mem_cons_of_mem _ hz)
    refine ⟨p :: ps, by rw [e, e2]; rfl, fun q hq => ?_⟩
    rcases List.mem_cons.mp hq with z | z
    · rw [z]
      exact hp
    · exact h2 q z
theorem stps_at {K : PySem.W.Frag} {H : Hp} {a : Addr} {ps : List Stp} (h : ChainAt K H a (ps.map Stp.v)) : StpsAt K H a ps := by
  obtain ⟨xs, h1, h2⟩ := h
  refine ⟨xs, h1, by rw [h2.len, List.length_map, List.length_map], fun i x p hx hp => ?_⟩
  obtain ⟨b, e1, e2, _⟩ := h2.at_ i x (some p.v) hx (by rw [List.getElem?_map, List.getElem?_map, hp]; rfl)
  exact ⟨b, e1, e2⟩
end FC
set_option Elab.async false
set_option linter.all false
set_option maxRecDepth 100000
set_option maxHeartbeats 4000000
/-! form. -/
namespace FC
open PySem PySem.Spec PyProof.Rows L2
/-- a form in the heap -/
def FrmAt (K : PySem.W.Frag) (H : Hp) (t : Addr) (f : Frm') : Prop := ∃ ca ba ea, SqT K H t [.int f.1, .ref ca, .ref ba, .ref ea] ∧ FT K (RT K (RP K)) H ca f.2.1 ∧ FT K (RBa K) H ba f.2.2.1 ∧ FT K (RT K (REl K)) H ea f.2.2.2
theorem FrmAt.wk {K : PySem.W.Frag} {H H' : Hp} {t : Addr} {f : Frm'} (s : Wk H H') (h : FrmAt K H t f) : FrmAt K H' t f := by
  obtain ⟨ca, ba, ea, h1, h2, h3, h4⟩ := h
  exact ⟨ca, ba, ea, sqt_wk s h1, h2.wk (fst_RT fst_RP) s, h3.wk fst_RBa s, h4.wk (fst_RT fst_REl) s⟩
def spForm (K : PySem.W.Frag) (c0 : Addr) : Sp := fun vs H Q E => ∃ x, vs = [x] ∧
  ((∃ c ps fuel r, x = .ref c ∧ ChainAt K H c (ps.map Stp.v) ∧ (∀ p ∈ ps, p.ok) ∧ chainOk (ps.map Stp.v) = true ∧ formM fuel ps = some r ∧ ∀ (t : Addr) H', Same H H' → FrmAt K H' t r → Q (.ref t) H') ∨
   (∃ oo, ChainV K H x oo ∧ chainOkO oo = false ∧ ∀ H', Same H H' → E (.ref c0) none H'))
section
variable {P : Program} {w : World} {K : PySem.W.Frag} {mg : Str → Option Value} {base : Heap} {SC MCl GCl TCl c0 : Addr}
abbrev NFm : List Str := ["chain", "table", "counts", "line"]
theorem scFormK : FnScope NFm ["chain"] (defScope sForm) := ⟨rfl, rfl, rfl, by decide +kernel, rfl, by decide +kernel, by decide +kernel⟩
theorem ok_form {f fT : Addr} {fd fdT : FuncData} (F : Fun K "form" "form" sForm f fd) (TT : TbT K TCl) (TG : GrT K GCl) (B : Blt mg) (CK : Cal P w K mg base (L2N.CX P w) 5 "check_chain" ["value"] (spCheck K c0))
    (MT : Mk K TCl fT) (FT' : FnOk P w K mg base CX0 9 fT fdT ["self", "chain"] (spTabI P w K SC MCl GCl TCl)) (bT : Binds K fdT ["self", "chain"] []) (gT : mg "Table" = some (.ref TCl)) : FnOk P w K mg base (L2N.CX P w) 11 f fd ["chain"] (spForm K c0) := by
  refine okN F scFormK (fun vs H Q E h => ?_) (fun cdv A outer s H vs Q E hr h => ?_)
  · obtain ⟨x, rfl, _⟩ := h
    rfl
  · obtain ⟨x, rfl, h⟩ := h
    have nd := scFormK.nd
    have hr5 : Room 5 _ := hr.mono (by decide)
    refine ⟨_, pss_cons (ps_expr (pe_cal CK hr5 (L2N.passes_call (W := fun cls d _ H => E cls d H) (L2N.takes_of rfl rfl rfl rfl) (fun _ _ _ _ h => h)) (pa_cons (pv 0) pa_nil)))
      (pss_cons (ps_set (i := 1) nd rfl (Or.inr rfl) (pe_make MT FT' hr (by rfl) gT bT .nil pass0 (pa_cons (pv 0) pa_nil)))
      (pss_cons (ps_set (i := 2) nd rfl (Or.inl rfl) (pe_callTy call_tuple_of (by rfl) B.tuple (by decide +kernel) (pa_cons (pe_lc (own := [("line", 3)]) (g := gName 3) (tt := tYes) (te := tSl (rSlN K) (tVar 3) tNoPart (tPart (tFld K (tVar 1) "modulus"))) (by rfl) nd (pi_list (pe_fld (pe_fld (pv 1) rfl) rfl)) (blkOk_by (own := [("line", 3)]) (N := NFm) (sc := defScope sForm) (by decide +kernel)) (fun _ _ _ _ _ => pg_name (i := 3) nd rfl (Or.inl rfl))
            (fun _ _ _ _ _ => pts_nil) (fun _ _ _ _ _ => pe_slice sl_tupN (pv 3) po_none (po_some (pe_fld (pv 1) rfl)))) pa_nil)))
      (pss_one (ps_ret (pe_tup (pa_cons (pe_fld (pv 1) rfl) (pa_cons (pv 2) (pa_cons (pe_callTy call_tuple_of (by rfl) B.tuple (by decide +kernel) (pa_cons (pe_fld (pv 1) rfl) pa_nil)) (pa_cons (pe_callTy call_tuple_of (by rfl) B.tuple (by decide +kernel) (pa_cons (pe_fld (pv 1) rfl) pa_nil)) pa_nil))))))))), ?_⟩
    rcases h with ⟨c, ps, fuel, r, rfl, hca, hok, hcok, hm, k⟩ | ⟨oo, hx, hf, k⟩
    · refine ⟨_, rfl, .ref c, _, rfl, hca.v, fun H1 s1 => ⟨fun _ => ?_, fun z => ?_⟩⟩
      · have hl4 : ps.length ≤ 4 := by
          have := chainOk_len hcok
          rw [List.length_map] at this
          exact this
        have hst := stps_at (hca.same s1)
        unfold formM at hm
        obtain ⟨C, hC, hm⟩ := bnd_some.mp hm
        obtain ⟨T, hT, hm⟩ := bnd_some.mp hm
        have hm := Option.some.inj hm
        have hT0 := hT
        unfold table at hT0
        obtain ⟨_, hg, _⟩ := bnd_some.mp hT0
        have hg := grd_some.mp hg
        rw [Bool.and_eq_true, decide_eq_true_eq, decide_eq_true_eq] at hg
        obtain ⟨hg1, hg2, hg3⟩ := hg
        clear hT0
        have hsz : 200000 < sizeLine := by rw [sizeLine_eq]; omega
        refine ⟨_, rfl, fun t dm ht hdm hne => ?_⟩
        obtain ⟨H2, e2⟩ : ∃ H2, H2 = upd (upd H1 dm (.own t)) t (.ins TCl dm []) := ⟨_, rfl⟩
        have s12 : Same H1 H2 := (make_same ht hdm hne e2 (fun _ _ _ h => h)).2
        refine ⟨t, c, dm, ps, fuel, C, T, rfl, upd_same, stps_same hst (by rw [e2] at s12; exact s12), ⟨hok, hl4⟩, hC, hT, fun H3 Y M hTb o3 => ⟨rfl, ?_⟩⟩
        have o3 : OffD t H2 H3 := by rw [e2]; exact o3
        have s13 := (make_same ht hdm hne e2 o3).1
        clear e2 s12 o3
        obtain ⟨dx, hi⟩ := hTb.ins
        obtain ⟨dg, fa, oa, ca, aa, g1, g2, g3, g4, g5⟩ := hTb.grp
        obtain ⟨cvs, co, c1, c2⟩ := g4
        have hcvl := c2.len
        refine ⟨_, rfl, t, TCl, dx, _, _, rfl, hi, TT.cl, TT.ng, rfl, Y.ga, GCl, dg, _, _, rfl, g1, TG.cl, TG.nc, rfl, ca, rfl, ⟨_, .inl (.inr ⟨co, c1⟩)⟩, fun D hD => ?_⟩
        refine lc_ls (R := RT K (RP K)) (walk_list (K := K) (a := ca) (xs := cvs)) (fst_RT fst_RP) (C.G.counts.map fun l => l.take C.modulus.toNat) (by rw [List.length_map]; omega) (by omega) hD (fun H4 s4 => .inl (.inr ⟨co, s4 _ _ c1⟩)) ?_ ?_
        · rintro i x y H4 H5 Nx hy s4 ⟨rfl, hx⟩ fin
          rw [List.getElem?_map] at hy
          obtain ⟨l, hl, rfl⟩ := Option.map_eq_some_iff.mp hy
          obtain ⟨lb, rfl, vs, b1, b2⟩ := c2.at_ i x l hx hl
          have b1 := sqt_same s4 b1
          refine ⟨rfl, _, rfl, _, rfl, t, TCl, dx, _, _, rfl, s4 _ _ hi, TT.cl, TT.nm, rfl, Y.m, rfl, lb, vs, rfl, b1, fun p H6 s6 hp => ?_⟩
          rw [hTb.mod, cutV_to hg2] at hp
          exact fin _ _ s6 ⟨p, rfl, _, hp, (b2.wk fst_RP (Wk.of (Same.trans s4 s6))).take _⟩
        · intro H4 us s4 hus hls
          refine ⟨D, us, rfl, .inl ⟨SqL.of hus, fun cp ncp => ?_⟩⟩
          have s5 := same_upd (o := .tup us) (Same.refl H4) ncp
          have hct : FT K (RT K (RP K)) (upd H4 cp (.tup us)) cp (C.G.counts.map fun l => l.take C.modulus.toNat) := ⟨us, sqt_new, hls.wk (fst_RT fst_RP) (Wk.of s5)⟩
          have hTb5 := (hTb.same s4).same s5
          have s35 := Same.trans s4 s5
          generalize upd H4 cp (.tup us) = H5 at s5 hct hTb5 s35 ⊢
          obtain ⟨bus, bs1, bs2⟩ := hTb5.basis
          obtain ⟨eus, en1, en2⟩ := hTb5.entries
          have hi5 := s35 _ _ hi
          refine ⟨_, rfl, t, TCl, dx, _, _, rfl, hi5, TT.cl, TT.nm, rfl, _, rfl, _, rfl, t, TCl, dx, _, _, rfl, hi5, TT.cl, TT.nb, rfl, Y.bs, bus, rfl, .inl ⟨SqL.of bs1, fun bp nbp => ?_⟩⟩
          have s6 := same_upd (o := .tup bus) (Same.refl H5) nbp
          have hbt : FT K (RBa K) (upd H5 bp (.tup bus)) bp T.basis := ⟨bus, sqt_new, bs2.wk fst_RBa (Wk.of s6)⟩
          have en6 := s6 _ _ en1
          have hi6 := s6 _ _ hi5
          generalize upd H5 bp (.tup bus) = H6 at s6 hbt en6 hi6 ⊢
          refine ⟨_, rfl, t, TCl, dx, _, _, rfl, hi6, TT.cl, TT.ne, rfl, Y.en, eus, rfl, .inl ⟨SqL.of en6, fun ep nep => ?_⟩⟩
          have s7 := same_upd (o := .tup eus) (Same.refl H6) nep
          have het : FT K (RT K (REl K)) (upd H6 ep (.tup eus)) ep T.entries := ⟨eus, sqt_new, (en2.wk (fst_RT fst_REl) (Wk.of s6)).wk (fst_RT fst_REl) (Wk.of s7)⟩
          generalize upd H6 ep (.tup eus) = H7 at s7 het ⊢
          refine ⟨(by show 4 ≤ sizeLine; decide), fun tp ntp => ?_⟩
          have s8 := same_upd (o := .tup [V.int Y.m, .ref cp, .ref bp, .ref ep]) (Same.refl H7) ntp
          refine k tp _ (Same.trans s1 (Same.trans s13 (Same.trans s35 (Same.trans s6 (Same.trans s7 s8))))) ?_
          rw [← hm]
          refine ⟨cp, bp, ep, ?_, hct.wk (fst_RT fst_RP) (Wk.of (Same.trans s6 (Same.trans s7 s8))), hbt.wk fst_RBa (Wk.of (Same.trans s7 s8)), het.wk (fst_RT fst_REl) (Wk.of s8)⟩
          rw [← hTb.mod]
          exact sqt_new
      · have e : chainOkO (some ((ps.map Stp.v).map some)) = true := (chainOkL_some _).trans hcok
        rw [e] at z; cases z
    · exact ⟨_, rfl, x, oo, rfl, hx, fun H1 s1 => ⟨fun z => (by rw [hf] at z; cases z), fun _ => k H1 s1⟩⟩
end
end FC
set_option Elab.async false
set_option linter.all false
set_option maxRecDepth 100000
set_option maxHeartbeats 4000000
/-! Tuples of tuples of numbers: what form gives, and displays of them. -/
namespace FC
open PySem PySem.Spec PyProof.Rows L2
inductive PT where
  | int (i : Int)
  | tup (ps : List PT)
mutual
def PAt (K : PySem.W.Frag) (H : Hp) : V → PT → Prop
  | x, .int i => x = .int i
  | x, .tup ps => ∃ a xs, x = .ref a ∧ SqT K H a xs ∧ PAts K H xs ps
def PAts (K : PySem.W.Frag) (H : Hp) : List V → List PT → Prop
  | xs, [] => xs = []
  | xs, p :: ps => ∃ y ys, xs = y :: ys ∧ PAt K H y p ∧ PAts K H ys ps
end
mutual
def pdata : PT → PyData
  | .int i => .int i
  | .tup ps => .tuple (pdatas ps)
def pdatas : List PT → List PyData
  | [] => []
  | p :: ps => pdata p :: pdatas ps
end
mutual
theorem PAt.wk {K : PySem.W.Frag} {H H' : Hp} (s : Wk H H') : ∀ {x : V} {p : PT}, PAt K H x p → PAt K H' x p
  | x, .int _, h => by unfold PAt at h ⊢; exact h
  | x, .tup ps, h => by
    unfold PAt at h ⊢
    obtain ⟨a, xs, h1, h2, h3⟩ := h
    exact ⟨a, xs, h1, sqt_wk s h2, PAts.wk s h3⟩
theorem PAts.wk {K : PySem.W.Frag} {H H' : Hp} (s : Wk H H') : ∀ {xs : List V} {ps : List PT}, PAts K H xs ps → PAts K H' xs ps
  | xs, [], h => by unfold PAts at h ⊢; exact h
  | xs, p :: ps, h => by
    unfold PAts at h ⊢
    obtain ⟨y, ys, h1, h2, h3⟩ := h
    exact ⟨y, ys, h1, PAt.wk s h2, PAts.wk s h3⟩
end
theorem fst_PAt {K : PySem.W.Frag} : FSt (PAt K) := fun _ _ _ _ s h => h.wk s
mutual
theorem PAt.dp {K : PySem.W.Frag} {H : Hp} : ∀ {x : V} {p : PT}, PAt K H x p → Dp K H x (pdata p)
  | x, .int i, h => by
    unfold PAt at h
    subst h
    exact .int _
  | x, .tup ps, h => by
    unfold PAt at h
    obtain ⟨a, xs, rfl, h2, h3⟩ := h
    exact .tup h2 (PAts.dp h3)
theorem PAts.dp {K : PySem.W.Frag} {H : Hp} : ∀ {xs : List V} {ps : List PT}, PAts K H xs ps → DpAll K H xs (pdatas ps)
  | xs, [], h => by
    unfold PAts at h
    subst h
    exact .nil
  | xs, p :: ps, h => by
    unfold PAts at h
    obtain ⟨y, ys, rfl, h2, h3⟩ := h
    exact .cons (PAt.dp h2) (PAts.dp h3)
end
theorem PAt.int {K : PySem.W.Frag} {H : Hp} {i : Int} : PAt K H (.int i) (.int i) := by unfold PAt; rfl
theorem PAt.tup {K : PySem.W.Frag} {H : Hp} {a : Addr} {xs : List V} {ps : List PT} (h : SqT K H a xs) (t : PAts K H xs ps) : PAt K H (.ref a) (.tup ps) := by
  unfold PAt
  exact ⟨a, xs, rfl, h, t⟩
theorem PAts.nil {K : PySem.W.Frag} {H : Hp} : PAts K H [] [] := by unfold PAts; rfl
theorem PAts.cons {K : PySem.W.Frag} {H : Hp} {x : V} {xs : List V} {p : PT} {ps : List PT} (h : PAt K H x p) (t : PAts K H xs ps) : PAts K H (x :: xs) (p :: ps) := by
  unfold PAts
  exact ⟨x, xs, rfl, h, t⟩
theorem pats_ls {K : PySem.W.Frag} {H : Hp} : ∀ {vs : List V} {ps : List PT}, Ls (PAt K) H vs ps → PAts K H vs ps
  | [], [], _ => .nil
  | [], _ :: _, h => by have := h.len; simp at this
  | _ :: _, [], h => by have := h.len; simp at this
  | v :: vs, p :: ps, h => .cons (h.at_ 0 v p rfl rfl) (pats_ls ⟨by have := h.len; simpa using this, fun i u x e1 e2 => h.at_ (i + 1) u x (by simpa using e1) (by simpa using e2)⟩)
theorem ls_map {α : Type} {K : PySem.W.Frag} {R : Hp → V → α → Prop} {H : Hp} (f : α → PT) (hf : ∀ v x, R H v x → PAt K H v (f x)) : ∀ {vs : List V} {l : List α}, Ls R H vs l → PAts K H vs (l.map f)
  | [], [], _ => .nil
  | [], _ :: _, h => by have := h.len; simp at this
  | _ :: _, [], h => by have := h.len; simp at this
  | v :: vs, p :: ps, h => .cons (hf _ _ (h.at_ 0 v p rfl rfl)) (ls_map f hf ⟨by have := h.len; simpa using this, fun i u x e1 e2 => h.at_ (i + 1) u x (by simpa using e1) (by simpa using e2)⟩)
theorem pats_ints {K : PySem.W.Frag} {H : Hp} : ∀ (ns : List Int), PAts K H (ns.map V.int) (ns.map PT.int)
  | [] => .nil
  | _ :: r => .cons .int (pats_ints r)
/-! ### a form so -/
def pairP (q : Int × Int) : PT := .tup [.int q.1, .int q.2]
def lineP (l : CLine) : PT := .tup (l.map pairP)
def basP (q : List Int × Int) : PT := .tup [.tup (q.1.map .int), .int q.2]
def mxP (q : Int × Int × Int) : PT := .tup [.int q.1, .tup [.int q.2.1, .int q.2.2]]
def elP (e : List Int × Mix) : PT := .tup [.tup (e.1.map .int), .tup (e.2.map mxP)]
def elsP (l : List (List Int × Mix)) : PT := .tup (l.map elP)
def frmP (f : Frm') : PT := .tup [.int f.1, .tup (f.2.1.map lineP), .tup (f.2.2.1.map basP), .tup (f.2.2.2.map elsP)]
theorem rt_map {α : Type} {K : PySem.W.Frag} {R : Hp → V → α → Prop} {H : Hp} (f : α → PT) (hf : ∀ v x, R H v x → PAt K H v (f x)) {a : Addr} {l : List α} (h : FT K R H a l) : PAt K H (.ref a) (.tup (l.map f)) := by
  obtain ⟨vs, h1, h2⟩ := h
  exact .tup h1 (ls_map f hf h2)
theorem rp_p {K : PySem.W.Frag} {H : Hp} (v : V) (q : Int × Int) (h : RP K H v q) : PAt K H v (pairP q) := by
  obtain ⟨t, rfl, h⟩ := h
  exact .tup h (.cons .int (.cons .int .nil))
theorem rb_p {K : PySem.W.Frag} {H : Hp} (v : V) (q : List Int × Int) (h : RBa K H v q) : PAt K H v (basP q) := by
  obtain ⟨a, r, rfl, h1, h2⟩ := h
  exact .tup h1 (.cons (.tup h2 (pats_ints _)) (.cons .int .nil))
theorem rm_p {K : PySem.W.Frag} {H : Hp} (v : V) (q : Int × Int × Int) (h : RMx K H v q) : PAt K H v (mxP q) := by
  obtain ⟨t, f, rfl, h1, h2⟩ := h
  exact .tup h1 (.cons .int (.cons (.tup h2 (.cons .int (.cons .int .nil))) .nil))
theorem re_p {K : PySem.W.Frag} {H : Hp} (v : V) (e : List Int × Mix) (h : REl K H v e) : PAt K H v (elP e) := by
  obtain ⟨a, g, m, rfl, h1, h2, h3⟩ := h
  exact .tup h1 (.cons (.tup h2 (pats_ints _)) (.cons (rt_map mxP rm_p h3) .nil))
theorem frm_p {K : PySem.W.Frag} {H : Hp} {t : Addr} {f : Frm'} (h : FrmAt K H t f) : PAt K H (.ref t) (frmP f) := by
  obtain ⟨ca, ba, ea, h1, h2, h3, h4⟩ := h
  exact .tup h1 (.cons .int (.cons (rt_map lineP (fun v x h => by obtain ⟨a, rfl, h⟩ := h; exact rt_map pairP rp_p h) h2) (.cons (rt_map basP rb_p h3) (.cons (rt_map elsP (fun v x h => by obtain ⟨a, rfl, h⟩ := h; exact rt_map elP re_p h) h4) .nil))))
/-! ### displays -/
def Gv (K : PySem.W.Frag) (σ : L2.St) (H : Hp) (t : TE) (p : PT) : Prop := ∀ H1 (Q : VK), Same H H1 → (∀ x H2, Same H1 H2 → PAt K H2 x p → Q x H2) → t σ H1 Q
def Gvs (K : PySem.W.Frag) (σ : L2.St) (H : Hp) (t : TA) (ps : List PT) : Prop := ∀ H1 (Q : List V → Hp → Prop), Same H H1 → (∀ xs H2, Same H1 H2 → PAts K H2 xs ps → xs.length = ps.length → Q xs H2) → t σ H1 Q
section
variable {K : PySem.W.Frag} {σ : L2.St} {H : Hp} {t u : TE} {ta : TA} {p q : PT} {ps : List PT}
theorem gv_int {i : Int} : Gv K σ H (tC (.int i)) (.int i) := fun H1 Q s k => k _ H1 (Same.refl H1) .int
theorem gv_neg {i : Int} : Gv K σ H (tUn (rU fun i => .int (-i)) (tC (.int i))) (.int (-i)) := fun H1 Q s k => ⟨i, rfl, k _ H1 (Same.refl H1) .int⟩
theorem gv_num {i : Nat} {n : Int} (h : σ[i]? = some (some (.int n))) : Gv K σ H (tVar i) (.int n) := fun H1 Q s k => ⟨_, h, k _ H1 (Same.refl H1) .int⟩
theorem gv_var {i : Nat} {v : V} (h : σ[i]? = some (some v)) (hv : PAt K H v p) : Gv K σ H (tVar i) p := fun H1 Q s k => ⟨_, h, k _ H1 (Same.refl H1) (hv.wk (Wk.of s))⟩
theorem gvs_nil : Gvs K σ H tNil [] := fun H1 Q s k => k [] H1 (Same.refl H1) .nil rfl
theorem gvs_cons (h : Gv K σ H t p) (g : Gvs K σ H ta ps) : Gvs K σ H (tCons t ta) (p :: ps) := fun H1 Q s k => h H1 _ s fun x H2 s2 hx => g H2 _ (Same.trans s s2) fun xs H3 s3 hxs hl => k (x :: xs) H3 (Same.trans s2 s3) (.cons (hx.wk (Wk.of s3)) hxs) (by rw [List.length_cons, List.length_cons, hl])
theorem gv_tup (g : Gvs K σ H ta ps) (hl : ps.length ≤ 1000) : Gv K σ H (tTup ta) (.tup ps) := fun H1 Q s k => g H1 _ s fun xs H2 s2 hxs hn => ⟨by
  have h4 : 4000 < sizeLine := by decide
  omega, fun a na => by
    have s3 := same_upd (o := .tup xs) (Same.refl H2) na
    exact k _ _ (Same.trans s2 s3) (.tup sqt_new (hxs.wk (Wk.of s3)))⟩
theorem Gv.use {Q : VK} (h : Gv K σ H t p) (k : ∀ x H2, Same H H2 → PAt K H2 x p → Q x H2) : t σ H Q := h H Q (Same.refl H) k
theorem Gvs.use {Q : List V → Hp → Prop} (h : Gvs K σ H ta ps) (k : ∀ xs H2, Same H H2 → PAts K H2 xs ps → xs.length = ps.length → Q xs H2) : ta σ H Q := h H Q (Same.refl H) k
theorem gv_set {i : Nat} {D : Ends} (h : Gv K σ H t p) (k : ∀ x H2, Same H H2 → PAt K H2 x p → D.nx (σ.set i (some x)) H2) : tAsg t (gName i) D σ H := h H _ (Same.refl H) k
end
end FC
set_option Elab.async false
set_option linter.all false
set_option maxRecDepth 100000
set_option maxHeartbeats 4000000
namespace FC
open PySem L2
theorem SameX.upd {d p : Addr} {H H' : Hp} {o : HO} (e : SameX d H H') (h : H' p = none) : SameX d H (L2.upd H' p o) := fun b u q n => by
  have q' := e b u q n
  rw [upd_ne (ne_of_none q' h)]
  exact q'
theorem SameX.free {d l : Addr} {H H' : Hp} (e : SameX d H H') (hd : l ≠ d) (h : H' l = none) : H l = none := by
  cases q : H l with
  | none => rfl
  | some o =>
    rw [e l o q hd] at h
    cases h
theorem Dice.same {d : Addr} {H H' : Hp} (s : Same H H') (h : Dice H d) : Dice H' d := by
  obtain ⟨a, b, e⟩ := h
  exact ⟨a, b, s _ _ e⟩
theorem Dice.ne {d p : Addr} {H : Hp} (h : Dice H d) (n : H p = none) : d ≠ p := by
  obtain ⟨a, b, e⟩ := h
  exact ne_of_none e n
section
variable {P : Program} {w : World} {K : PySem.W.Frag} {mg : Str → Option Value} {base : Heap}
theorem scRoll : FnScope ["_law_dice", "_law_many", "_law_told"] ["_law_dice", "_law_many"] (defScope sRoll) := ⟨rfl, rfl, rfl, by decide +kernel, rfl, by decide +kernel, by decide +kernel⟩
theorem ok_roll {f : Addr} {fd : FuncData} (F : Fun K "_law_roll" "_law_roll" sRoll f fd) (CD : Cal P w K mg base CX0 1 "_law_drawn" ["_law_cell_here", "_law_k"] spDrawn) : FnOk P w K mg base CX0 2 f fd ["_law_dice", "_law_many"] spRoll := by
  refine F.ok scRoll (fun vs H Q E h => ?_) (fun cdv A outer s H vs Q E hr h => ?_)
  · obtain ⟨a, k, rfl, _⟩ := h
    rfl
  · obtain ⟨d, m, rfl, ⟨a, b, hd⟩, h1, h2, q⟩ := h
    have nd := scRoll.nd
    refine ⟨_, pss_cons (ps_if (pt_cmp (pc_ge (pe_ix ix_list (pv 0) pe_int (fun _ _ => rfl)) (pe_op op_pow pe_int pe_int)))
        (pss_cons (ps_set (i := 2) nd rfl (Or.inl rfl) (pe_op op_mod (pe_ix ix_list (pv 0) pe_int (fun _ _ => rfl)) (pv 1)))
        (pss_cons (ps_asg (pe_op op_fdivW (pe_ix ix_list (pv 0) pe_int (fun _ _ => rfl)) (pv 1)) (pg_sub (pv 0) pe_int set_list))
        (pss_one (ps_ret (pv 2))))) pss_nil)
      (pss_cons (ps_asg (pe_op op_add (pe_ix ix_list (pv 0) pe_int (fun _ _ => rfl)) pe_int) (pg_sub (pv 0) pe_int set_list))
      (pss_one (ps_ret (pe_op op_mod (pe_op op_fdiv (pe_cal CD hr pass0 (pa_cons (pe_ix ix_list (pv 0) pe_int (fun _ _ => rfl)) (pa_cons (pe_ix ix_list (pv 0) pe_int (fun _ _ => rfl)) pa_nil))) pe_int) (pv 1))))), ?_⟩
    have at0' : ∀ x y : Int, atI [V.int x, V.int y] 0 = some (V.int x) := fun x y => at0 _ _
    have at1' : ∀ x y : Int, atI [V.int x, V.int y] 1 = some (V.int y) := fun x y => by
      have h := atI_nat (xs := [V.int x, V.int y]) (j := 1) (v := V.int y) rfl
      exact h
    have only : ∀ (o : HO), SameX d H (upd H d o) := fun o c u e n => by
      rw [upd_ne n]
      exact e
    have hm : (0 : Int) < m := by omega
    have hb200 : m.natAbs < 2 ^ 200 := by
      have e : (2 : Nat) ^ 200 = 1606938044258990275541962092341162602522202993782792835301376 := by decide +kernel
      rw [e]
      omega
    refine ⟨_, rfl, d, _, _, _, rfl, rfl, SqL.of hd, at0' a b, _, _, rfl, rfl, ⟨by decide, by decide, by decide⟩, _, _, rfl, rfl, _, rfl, ?_⟩
    refine ite2 (fun _ => ?_) (fun _ => ?_)
    · refine ⟨_, rfl, d, _, _, _, rfl, rfl, SqL.of hd, at0' a b, _, rfl, _, _, rfl, rfl, hm, ?_⟩
      refine ⟨_, rfl, d, _, _, _, rfl, rfl, SqL.of hd, at0' a b, _, rfl, _, _, rfl, rfl, wide_div hm (b := 200) hb200 (by decide) (by decide), ?_⟩
      refine ⟨_, rfl, d, _, _, 0, rfl, rfl, hd, rfl, ?_⟩
      exact ⟨_, rfl, q _ _ (Int.emod_nonneg _ (Int.ne_of_gt hm)) (Int.emod_lt_of_pos _ hm) ⟨_, _, upd_same⟩ (only _)⟩
    · refine ⟨_, rfl, d, _, _, _, rfl, rfl, SqL.of hd, at1' a b, _, _, rfl, rfl, ?_⟩
      refine ⟨_, rfl, d, _, _, 1, rfl, rfl, hd, rfl, ?_⟩
      have hd2 : upd H d (.lst ([V.int a, V.int b].set 1 (V.int (b + 1)))) d = some (.lst [V.int a, V.int (b + 1)]) := upd_same
      refine ⟨_, rfl, d, _, _, _, rfl, rfl, SqL.of hd2, at0' a (b + 1), _, rfl, d, _, _, _, rfl, rfl, SqL.of hd2, at1' a (b + 1), a, b + 1, rfl, fun r hr0 => ?_⟩
      refine ⟨_, _, rfl, rfl, ⟨by decide, by decide⟩, _, rfl, _, _, rfl, rfl, hm, ?_⟩
      exact q _ _ (Int.emod_nonneg _ (Int.ne_of_gt hm)) (Int.emod_lt_of_pos _ hm) ⟨_, _, upd_same⟩ (only _)
end
end FC
set_option Elab.async false
set_option linter.all false
set_option maxRecDepth 100000
set_option maxHeartbeats 4000000
namespace FC
open PySem L2
def strInt : V → Bool
  | .str _ => true
  | .int _ => true
  | _ => false
theorem strInt_nice {K : PySem.W.Frag} {H : Hp} {y : V} (h : strInt y = true) : Nice K H y := by
  cases y <;> first | exact Nice.str _ | exact Nice.int _ | cases h
end FC
set_option Elab.async false
set_option linter.all false
set_option maxRecDepth 100000
set_option maxHeartbeats 4000000
namespace FC
open PySem L2
theorem sqt_sameX {K : PySem.W.Frag} {H H' : Hp} {a d : Addr} {xs : List V} (h : SqT K H a xs) (hd : Dice H d) (s : SameX d H H') : SqT K H' a xs := by
  obtain ⟨x, y, e⟩ := hd
  rcases h with (h | ⟨o, h⟩) | h
  · exact .inl (.inl (s _ _ h (ne_of h e (by intro z; cases z))))
  · exact .inl (.inr ⟨o, s _ _ h (ne_of h e (by intro z; cases z))⟩)
  · exact .inr h
theorem stepOk_strInt {ys : List V} (h : stepOk ys = true) : ∀ y ∈ ys, strInt y = true := by
  obtain ⟨name, ns, rfl, _⟩ := stepOk_shape h
  intro y hy
  rcases List.mem_cons.mp hy with z | z
  · rw [z]
    rfl
  · obtain ⟨n, _, rfl⟩ := List.mem_map.mp z
    rfl
theorem chainAt_sameX {K : PySem.W.Frag} {H H' : Hp} {a d : Addr} {cs : List (List V)} (h : ChainAt K H a cs) (hc : chainOk cs = true) (hd : Dice H d) (s : SameX d H H') : ChainAt K H' a cs := by
  obtain ⟨xs, h1, h2⟩ := h
  refine ⟨xs, sqt_sameX h1 hd s, h2.len, fun i x o hx ho => ?_⟩
  have hi := get_lt ho
  rw [List.length_map] at hi
  have e : (cs.map some)[i]? = some (some cs[i]) := by rw [List.getElem?_map, List.getElem?_eq_getElem hi]; rfl
  rw [e] at ho
  have ho : some cs[i] = o := Option.some.inj ho
  subst ho
  obtain ⟨b, e1, e2, _⟩ := h2.at_ i x _ hx e
  exact ⟨b, e1, sqt_sameX e2 hd s, fun y hy => strInt_nice (stepOk_strInt (chainOk_steps hc _ (List.getElem_mem hi)) y hy)⟩
theorem Steps.snoc {K : PySem.W.Frag} {H : Hp} {xs : List V} {os : List (Option (List V))} {x : V} {o : Option (List V)} (h : Steps K H xs os) (hx : StepV K H x o) : Steps K H (xs ++ [x]) (os ++ [o]) := by
  refine ⟨by rw [List.length_append, List.length_append, h.len]; rfl, fun i y p hy hp => ?_⟩
  by_cases hi : i < xs.length
  · rw [List.getElem?_append_left hi] at hy
    rw [List.getElem?_append_left (by rw [← h.len]; exact hi)] at hp
    exact h.at_ i y p hy hp
  · have hi2 := get_lt hy
    rw [List.length_append] at hi2
    have hi2 : i < xs.length + 1 := hi2
    have ei : i = xs.length := by omega
    subst ei
    rw [List.getElem?_append_right (Nat.le_refl _), Nat.sub_self] at hy
    rw [h.len, List.getElem?_append_right (Nat.le_refl _), Nat.sub_self] at hp
    have hy : x = y := Option.some.inj hy
    have hp : o = p := Option.some.inj hp
    rw [← hy, ← hp]
    exact hx
end FC
set_option Elab.async false
set_option linter.all false
set_option maxRecDepth 100000
set_option maxHeartbeats 4000000
/-! While an exception is handled: a list's iterator at its end, sums, a comprehension of numbers of truth values, isinstance of the exception itself. -/
namespace FC
open PySem PySem.Spec PyProof.Rows L2
section
variable {prog : Program} {w : World} {A : Around} {E : Value → Shared → Prop} {s : Shared}
/-- the iterator has nothing more to give -/
theorem list_out_hot {it l x1 : Addr} {i : Nat} {items : Array Value} {Q : Option Value → Shared → Prop} (hot : HotX.HotAt A x1 s.heap) (apart : x1 ≠ it) (p : s.heap.IsListIter it l i) (q : s.heap.IsList l items) (out : items[i]? = none)
    (go : ∀ h', Heap.ExtBut it s.heap h' → Q none { s with heap := h' }) : wpAny (model prog w) A (pyNext (.ref it)) Q E s := by
  obtain ⟨o, a1, a2, a3⟩ := id p
  obtain ⟨ol, b1, _, n, b3⟩ := q
  obtain ⟨hh, ox, vx, c1, c2, c3⟩ := hot
  unfold pyNext
  refine wpAny_bind (wpAny_attempt (wpAny_callSpecial?_slot (name := Str.ofString "__next__") p.typeIs slot_listiter_next (wpAny_call_entry slot_listiter_next p.typeIs entry_listiter_next ?_ (args_listiter_next _))))
  show wpAny _ _ (field (.ref it) 0 >>= fun _ => _) _ _ s
  refine wpAny_bind (wpAny_field a1 a3 (x := .ref l) rfl ?_)
  show wpAny _ _ (if (Value.ref l == Value.none) = true then _ else _) _ _ s
  rw [if_neg (fun z : (Value.ref l == Value.none) = true => Bool.noConfusion z)]
  show wpAny _ _ (field (.ref it) 1 >>= fun _ => _) _ _ s
  refine wpAny_bind (wpAny_field a1 a3 (x := .int i 0) rfl ?_)
  show wpAny _ _ (seqItems? (.ref l) >>= fun _ => _) _ _ s
  refine wpAny_bind (wpAny_seqItems b1 b3 ?_)
  simp only [Int.toNat_natCast, out]
  refine wpAny_bind (wpAny_rule (wpAny_bind (wpAny_setField a1 a3 (by simp) ?_)))
  show wpAny _ _ (newExc (.type "StopIteration") [] >>= fun _ => _) _ _ _
  refine wpAny_bind ?_
  simp only [newExc, newTuple]
  refine wpAny_bind (wpAny_newObj_type ?_ (by size_fits))
  refine wpAny_bind (m := firstArgMember _ _) (wpAny_of_eq (a := Value.none) (by first | rfl | (simp only [firstArgMember]; rfl)) ?_)
  refine wpAny_newObj_type ?_ (by size_fits)
  have up := fun (b : Addr) (u : Obj) (hb : it ≠ b) (e : s.heap.get? b = some u) => (Heap.get?_update_other s.heap (Obj.mapFields fun x => x.setIfInBounds 0 Value.none) hb).trans e
  refine HotX.raiseNew_hot ⟨hh, ox, vx, Heap.get?_push_of_some _ (Heap.get?_push_of_some _ (up x1 ox apart.symm c1)), c2, c3⟩ (Nat.ne_of_lt (Heap.lt_size (Heap.get?_push_of_some _ (up x1 ox apart.symm c1)))) (Heap.get?_push_size _ rfl) rfl
    (by first | (simp; done) | (simp; omega) | (simp only [Array.size_append]; simp; omega)) ?_
  refine wpAny_bind (wpAny_isInstance (T := "StopIteration") (b := true) ⟨_, Heap.get?_update_self _ (Heap.get?_push_size _ rfl) rfl, rfl⟩ isSubtype_stop ?_)
  refine wpAny_pure (go _ fun b u hb e => ?_)
  have e2 := up b u (fun z => hb z.symm) e
  rw [Heap.get?_update_other _ _ (Nat.ne_of_gt (Heap.lt_size (Heap.get?_push_of_some _ e2)))]
  exact Heap.get?_push_of_some _ (Heap.get?_push_of_some _ e2)
/-- a list's items, one after the other, while the exception at x1 is handled -/
theorem walk_hot {I l x1 : Addr} {items : Array Value} (apart : x1 ≠ I) (other : l ≠ I) :
    Walks prog w A I [I, l, x1] [I] items.size (fun i v => items[i]? = some v) (fun i h => h.IsListIter I l i ∧ h.IsList l items ∧ HotX.HotAt A x1 h) where
  sub := fun b hb => by
    rw [List.mem_singleton.mp hb]
    simp
  frame := fun i h h' st keep => by
    obtain ⟨⟨o, a1, a2, a3⟩, ⟨u, b1, b2⟩, hh, ox, vx, c1, c2⟩ := st
    exact ⟨⟨o, keep I (by simp) o a1, a2, a3⟩, ⟨u, keep l (by simp) u b1, b2⟩, hh, ox, vx, keep x1 (by simp) ox c1, c2⟩
  item := fun i s Q E hi st go => by
    obtain ⟨p, q, hh, ox, vx, c1, c2⟩ := st
    refine wpAny_pyNext_list_item p q (x := items[i]) (by simp [hi]) fun h' p' same => ?_
    exact go _ h' s.toks (by simp [hi]) ⟨p', q.extBut same.extBut other, hh, ox, vx, (same.2 x1 apart).trans c1, c2⟩ fun b o hb e => (same.2 b (fun z => hb (by simp [z]))).trans e
  done := fun s Q E st go => list_out_hot st.2.2 apart st.1 st.2.1 (by simp) fun h' ext => go h' s.toks fun b o hb e => ext b o (fun z => hb (by simp [z])) e
  self := fun _ _ _ _ st go => wpAny_pyIter_listiter st.1 go
theorem hot_fresh {x1 : Addr} {h : Heap} (hot : HotX.HotAt A x1 h) : x1 < h.objs.size := by
  obtain ⟨_, _, _, e, _⟩ := hot
  exact Heap.lt_size e
theorem hot_push {x1 : Addr} {h : Heap} {o : Obj} (hot : HotX.HotAt A x1 h) : HotX.HotAt A x1 (h.push o) := by
  obtain ⟨a, u, v, e, c⟩ := hot
  exact ⟨a, u, v, Heap.get?_push_of_some _ e, c⟩
theorem list_lt {l : Addr} {items : Array Value} {h : Heap} (hl : h.IsList l items) : l < h.objs.size := by
  obtain ⟨_, e, _⟩ := hl
  exact Heap.lt_size e
end
section
variable {X : Cx}
/-- sum of a list of numbers -/
theorem sum_hot (hc : L2H.HotC X) : CallR X (.builtin "sum") (rSum X.K) := by
  intro pins s σ H vs us Q I r h
  obtain ⟨a, ns, rfl, hs, q⟩ := h
  obtain ⟨its, rv, hl, _⟩ := I.list hs
  rw [Vals.ref1 r]
  obtain ⟨x1, hot⟩ := hc.at I
  obtain ⟨xs, e⟩ := rv.ints.allInts.items
  have hn : numsOf (intItems xs).toList = ns := by
    rw [← e]
    exact rv.ints.numsOf
  rw [nums_intItems] at hn
  have hl' := hl.isList
  rw [e] at hl'
  have l1 := hot_fresh hot
  have l2 := list_lt hl'
  refine PySem.call_sum_walkG (wpAny_pyIter_list hl' ?_)
  refine ⟨s.heap.objs.size, [s.heap.objs.size, a, x1], [s.heap.objs.size], _, _, _, numAt xs, rfl, walk_hot (Nat.ne_of_lt l1) (Nat.ne_of_lt l2), ⟨⟨_, Heap.get?_push_size _ rfl, rfl, rfl⟩, hl'.push _, hot_push hot⟩, fun b hb => ?_, fun _ _ => intItems_at, fun h' tk t' keep => ?_⟩
  · show b < (s.heap.push _).objs.size
    rw [Heap.size_push]
    have hb : b = s.heap.objs.size ∨ b = a ∨ b = x1 := by simpa using hb
    rcases hb with z | z | z
    · rw [z]
      exact Nat.lt_succ_self _
    · rw [z]
      exact Nat.lt_succ_of_lt l2
    · rw [z]
      exact Nat.lt_succ_of_lt l1
  · have ev : preSum (numAt xs) (intItems xs).size = ns.sum := by
      have : (intItems xs).size = xs.size := by simp [intItems]
      rw [this, preSum_eq, List.take_of_length_le (by simp), hn]
    rw [ev]
    refine ⟨.int ns.sum, H, I.kept (t' := tk) fun b o e2 => keep b o (fun z => ?_) (Heap.get?_push_of_some _ e2), ⟨_, rfl⟩, q⟩
    rw [List.mem_singleton.mp z] at e2
    exact Nat.lt_irrefl _ (Heap.lt_size e2)
/-- isinstance of the exception that is handled -/
theorem isi_hot {p : Addr × Obj} {D : Addr} (hp : p ∈ X.pn) (C : ExcC X.K D) (hz : Zc (.ref D) none p.2) (hf : ∃ vs, p.2.data = .fields vs) : CallR X (.builtin "isinstance") (rIsE X.K D p.1) := by
  intro pins s σ H xs us Q I r h
  obtain ⟨c, u, b, rfl, hu, e, q⟩ := h
  obtain ⟨u1, u2, rfl, r1, r2⟩ := vals2 r
  cases (show u1 = Value.ref p.1 from r1)
  have e2 := hu _ r2
  subst e2
  have at_ := (I.pin p (List.mem_append_left _ hp)).1
  obtain ⟨vs, hv⟩ := hf
  have J : PySem.W.InstAt s.heap p.1 p.2 D none := by
    obtain ⟨a, oc, od, oda, osl⟩ := p
    obtain ⟨h1, h2⟩ := hz
    dsimp only at h1 h2 hv at_ ⊢
    subst h1 h2 hv
    exact ⟨at_, rfl, rfl, trivial⟩
  exact PySem.W.kia_one (PySem.W.handS_kitx_exc C.hg C.hk C.hs C.hd C.ha C.hn C.ht C.hm) I.kIn J e (fun z => nomatch z) fun tk => ⟨.bl b, H, I.kept (t' := tk) fun _ _ z => z, rfl, q⟩
end
end FC
set_option Elab.async false
set_option linter.all false
set_option maxRecDepth 100000
set_option maxHeartbeats 4000000
namespace FC
open PySem PySem.Spec PyProof.Rows L2
def b01 (b : Bool) : Int := if b then 1 else 0
/-- [int(x) for x in flags], flags in slot i -/
def tInts (K : PySem.W.Frag) (i : Nat) : TE := fun σ H Q => ∃ (a : Addr) (bs : List Bool), σ[i]? = some (some (.ref a)) ∧ SqL K H a (bs.map V.bl) ∧ ∀ D, H D = Option.none → Q (.ref D) (upd H D (.lst ((bs.map b01).map V.int)))
theorem bools_of : ∀ {bs : List Bool} {us : List Value}, Vals (bs.map V.bl) us → us = bs.map Value.bool
  | [], _, .nil => rfl
  | b :: r, _, .cons h t => by
    rw [bools_of (bs := r) t]
    cases h
    rfl
section
variable {X : Cx}
theorem pe_ints_hot {i : Nat} {x y : Str} {scope : Scope} {p1 p2 p3 p4 p5 pos : Pos} (hc : L2H.HotC X) (hi : X.mg "int" = Option.none) (hN : X.N[i]? = some y) (hv : Vis X.env.scope y) (hd : (y == ("__debug__" : Str)) = false) (hcd : (y == ("__classdict__" : Str)) = false)
    (hkind : scope.kind = .function) (hcell : ∀ z ∈ scope.names, z.2 ≠ .cell) (hfree : ∀ z ∈ scope.names, z.2 ≠ .free) (hnames : ∀ z ∈ scope.names, z.2 = .local → scope.names.lookup z.1 = some .local) (hx : scope.names.lookup x = some .local) (hxd : (x == ("__debug__" : Str)) = false)
    (hint : ∀ C cl, (compEnvC scope cl C X.env).kindOf "int" = some .globalImplicit) (hxl : ∀ C cl, (compEnvC scope cl C X.env).kindOf x = some .local)
    (hst : ∀ C cl, starEach [.Name x p2] (compEnvC scope cl C X.env) = (false, eval (.Name x p2) (compEnvC scope cl C X.env)) :: starEach [] (compEnvC scope cl C X.env)) :
    PE X (.ListComp (.Call (.Name "int" p1) [.Name x p2] [] p3) [⟨.Name x p4, .Name y p5, [], 0⟩] scope pos) (tInts X.K i) := by
  refine ⟨fun pins s σ H Q I h => ?_⟩
  obtain ⟨a, bs, hs, ha, q⟩ := h
  obtain ⟨its, rv, hl, hz⟩ := I.list ha
  have eits := bools_of rv
  obtain ⟨x1, hot⟩ := hc.at I
  have l1 := hot_fresh hot
  have l2 := list_lt hl.isList
  have noF : ∀ z ∈ scope.names, z.2 = .free → ∃ c, X.env.cells.lookup z.1 = some c := fun z hz e => absurd e (hfree z hz)
  obtain ⟨mb, hb1, hb2⟩ := I.mod.blt
  refine wpAny_ListComp_free (fun _ => true) (fun v u => ∃ b t, v = Value.bool b ∧ u = Value.int (b01 b) t) (closure_ok noF) hcell hkind hnames hx ?_
  refine thn ((pe_var (pos := p5) hN hv hd hcd).run pins s σ H (fun v H1 => v = .ref a ∧ H1 = H) I ⟨.ref a, hs, rfl, rfl⟩) fun u s1 ⟨v, H1, I1, r1, e1, e2⟩ => ?_
  subst e1 e2
  obtain rfl : u = Value.ref a := r1
  obtain ⟨its1, rv1, hl1, _⟩ := I1.list ha
  have eits1 := bools_of rv1
  obtain ⟨x2, hot1⟩ := hc.at I1
  have l3 := hot_fresh hot1
  have l4 := list_lt hl1.isList
  refine wpAny_pyIter_list hl1.isList ?_
  refine ⟨s1.heap.objs.size, [s1.heap.objs.size, a, x2], [s1.heap.objs.size], _, _, _, rfl, walk_hot (Nat.ne_of_lt l3) (Nat.ne_of_lt l4), ?_, ⟨⟨_, Heap.get?_push_size _ rfl, rfl, rfl⟩, hl1.isList.push _, hot_push hot1⟩, fun b hb => ?_, ⟨?_, ?_⟩, ?_⟩
  · have := rv1.length
    simp only [List.size_toArray]
    omega
  · show b < (s1.heap.push _).objs.size
    rw [Heap.size_push]
    have hb : b = s1.heap.objs.size ∨ b = a ∨ b = x2 := by simpa using hb
    rcases hb with z | z | z
    · rw [z]
      exact Nat.lt_succ_self _
    · rw [z]
      exact Nat.lt_succ_of_lt l4
    · rw [z]
      exact Nat.lt_succ_of_lt l3
  · intro C j v s3 m3 E' _ _ _ _ _ _
    exact wpAny_tests_nil ⟨rfl, s3.heap, s3.toks, rfl, fun _ _ e => e⟩
  · intro C j v s3 m3 E' hC hj _ hn hm keep tk
    have kb : ∀ b o, X.base.get? b = some o → s3.heap.get? b = some o := fun b o e => keep b o (fun z => by
      have := Heap.lt_size (I1.bk b o e)
      rw [List.mem_singleton.mp z] at this
      exact Nat.lt_irrefl _ this) (Heap.get?_push_of_some _ (I1.bk b o e))
    obtain ⟨b, rfl⟩ : ∃ b, v = Value.bool b := by
      rw [eits1] at hj
      simp only [List.getElem?_toArray, List.getElem?_map] at hj
      cases e : bs[j]? with
      | none =>
        rw [e] at hj
        cases hj
      | some b =>
        rw [e] at hj
        exact ⟨b, (Option.some.inj hj).symm⟩
    have hk : (compEnvC scope (cloFrom X.env.cells scope.names []) C X.env).scope.kind = .function := hkind
    refine wpAny_Call_Name_kw (Calls.Name_function_global hk (hint C _) (Calls.loadGlobal_builtin (by show s3.heap.Ns X.env.globals X.mg; rw [I1.ok.glob]; exact I1.mod.glob.keeps kb) hi (by show s3.heap.Ns X.env.builtins mb; rw [I1.ok.blt]; exact hb1.keeps kb) ((hb2 "int" (by decide)).trans (show bootBuiltins "int" = some (.type "int") by decide +kernel)) ?_))
    refine PyProof.Rows.callWith_type1 (Calls.spliced_cons (wpAny_Name (wpAny_loadName_local hk (hxl C _) hn hm ?_) hxd)) (hst C _) (by rfl)
    refine Calls.spliced_nil (call_int_bool ⟨⟨b, _, rfl, rfl⟩, s3.heap, s3.toks + 1, rfl, fun _ _ e => e⟩)
  · intro D h' tk ys vs hD _ hp hlen hP hF keep
    have evs : vs = bs.map Value.bool := by
      rw [← eits1]
      refine List.ext_getElem? fun j => ?_
      by_cases hj : j < vs.length
      · have e1 : vs[j]? = some vs[j] := List.getElem?_eq_getElem hj
        have e2 := hP j _ e1
        rw [e1]
        simpa using e2.symm
      · rw [List.getElem?_eq_none (by omega), List.getElem?_eq_none (by simpa [hlen] using hj)]
    have hF' : Paired (fun v u => ∃ b t, v = Value.bool b ∧ u = Value.int (b01 b) t) vs ys.toList := by
      have e : vs.filter (fun _ => true) = vs := List.filter_eq_self.mpr fun _ _ => rfl
      rw [← e]
      exact hF
    rw [evs] at hF'
    have rvals : Vals ((bs.map b01).map V.int) ys.toList := by
      have all : ∀ (bs : List Bool) (us : List Value), Paired (fun v u => ∃ b t, v = Value.bool b ∧ u = Value.int (b01 b) t) (bs.map Value.bool) us → Vals ((bs.map b01).map V.int) us := by
        intro bs
        induction bs with
        | nil =>
          intro us h
          cases h
          exact .nil
        | cons b r ih =>
          intro us h
          cases h with
          | cons h t =>
            obtain ⟨b', t', e1, e2⟩ := h
            cases e1
            rw [e2]
            exact .cons ⟨_, rfl⟩ (ih _ t)
      exact all bs _ hF'
    obtain ⟨n, hp⟩ := hp
    have kk : ∀ b o, s1.heap.get? b = some o → h'.get? b = some o := fun b o e => keep b o (fun z => by
      have := Heap.lt_size e
      rw [List.mem_singleton.mp z] at this
      exact Nat.lt_irrefl _ this) (Heap.get?_push_of_some _ e)
    have hD1 : s1.heap.get? D = Option.none := by
      cases e : s1.heap.get? D with
      | none => rfl
      | some o =>
        have := Heap.get?_push_of_some (h := s1.heap) { cls := .type "list_iterator", data := .fields #[.ref a, .int 0 0] } e
        have h2 : (s1.heap.push { cls := .type "list_iterator", data := .fields #[.ref a, .int 0 0] }).get? D = Option.none := hD
        rw [h2] at this
        cases this
    have hDn : H1 D = Option.none := I1.hok.gone hD1
    have I2 : Inv X pins σ (upd H1 D (.lst ((bs.map b01).map V.int))) { s1 with heap := h', toks := tk } := by
      refine I1.laidN (t' := tk) kk hD1 hDn ⟨?_, ys.toList, n, rvals, ?_⟩
      · have := rv1.length
        rw [List.length_map, List.length_map]
        rw [List.length_map] at this hz
        omega
      · simpa using hp
    exact ⟨.ref D, _, I2, rfl, q D hDn⟩
end
end FC
set_option Elab.async false
set_option linter.all false
set_option maxRecDepth 100000
set_option maxHeartbeats 4000000
/-! A def that is called within an except suite and is told of the exception that is handled. -/
namespace FC
open PySem PySem.Spec PyProof.Rows L2
structure FnP (P : Program) (w : World) (K : PySem.W.Frag) (mg : Str → Option Value) (base : Heap) (k : Nat) (f : Addr) (fd : FuncData) (ps : List Str) (sp : Addr × Obj → Sp) : Prop where
  len : ∀ p vs H Q E, sp p vs H Q E → vs.length = ps.length
  run : ∀ (p : Addr × Obj) (A : Around) (out : List Env) (s : Shared) (H : Hp) (args : Args) (us : List Value) (vs : List V) (Q : VK) (E : XK), L2H.RoomH k A → L2H.Hot1 A p → L2H.PinOk out H s p → Env0 P w K mg base A out s H →
    BindsTo s fd args (ps.zip us) → Vals vs us → sp p vs H Q E → codeAny (model P w) A (.call (.ref f) args) (CR CX0 out P w H s Q E) s
theorem okP {P : Program} {w : World} {K : PySem.W.Frag} {mg : Str → Option Value} {base : Heap} {x : Str} {st : Stmt} {f : Addr} {fd : FuncData} {N ps : List Str} {k : Nat} {sp : Addr × Obj → Sp} (F : Fun K x x st f fd) (S : FnScope N ps (defScope st))
    (len : ∀ p vs H Q E, sp p vs H Q E → vs.length = ps.length)
    (body : ∀ (c : Value) (p : Addr × Obj) (A : Around) (out : List Env) (s : Shared) (H : Hp) (vs : List V) (Q : VK) (E : XK), L2H.Hot1 A p → L2H.RoomH k (A.deeper (envOfC x (defScope st) s.heap.objs.size f c)) → sp p vs H Q E →
      ∃ t, PSs (L2H.cxH CX0 P w K mg base N x (defScope st) f c A out s H E p) (defBody st) t ∧ t { nx := fun _ H' => Q .non H', rt := Q } (L2.start N vs) H) : FnP P w K mg base (k + 1) f fd ps sp := by
  obtain ⟨oc, od, kV, doc, pm, an, c, ct, osl, rfl, lk, code⟩ := F.ex
  refine ⟨len, fun p A out s H args us vs Q E room hot pin e0 bind rel told => ?_⟩
  have old : ∀ b o, base.get? b = some o → s.heap.get? b = some o := fun b o e => (e0.bs b o e).1
  have KX : K.In s.heap := e0.mod.kin.keeps old
  have kinds : ∀ y ∈ ps.zip us, (defScope st).names.lookup y.1 = some .local ∨ ((defScope st).names.lookup y.1 = some .cell ∧ ((cellsFrom (s.heap.objs.size + 1) (defScope st).names []).lookup y.1).isSome = true) := by
    rintro ⟨n, u⟩ hy
    exact (S.par n (List.of_mem_zip hy).1).elim .inl fun q => .inr ⟨q, PySem.W.cellsFrom_some _ _ _ (.inl q)⟩
  refine codeAny_call_function room.depth (KX _ _ lk) rfl S.co S.gen rfl (PySem.W.codeRec_of KX code) (bind _ _ _ _ (wpAny_newFunctionEnv_cells S.kind kinds fun env he s1 x => ?_))
  subst he
  refine ⟨(e0.mod.nolimit.keeps old).keeps x.toInCall.keep, codeAny_func ?_⟩
  obtain ⟨t, run, told'⟩ := body c p A out s H vs Q E hot (room.deeper _) told
  have I := L2H.inv_startH (CX := CX0) (E := E) S pin e0 (len _ _ _ _ _ told) rel x
  refine wpAny_mono (run.run [] s1 (L2.start N vs) H _ I told') (fun fl s' hs => ?_) fun _ _ hs => hs
  cases fl with
  | ret u =>
    obtain ⟨v, σ', H', J, rv, q⟩ := hs
    exact ⟨v, H', J.os, J.bare, J.base, J.hok, rv, q⟩
  | next =>
    obtain ⟨σ', H', J, q⟩ := hs
    exact ⟨V.non, H', J.os, J.bare, J.base, J.hok, rfl, q⟩
  | brk =>
    obtain ⟨_, _, _, q⟩ := hs
    exact q.elim
  | cont =>
    obtain ⟨_, _, _, q⟩ := hs
    exact q.elim
section
variable {X : Cx} {k : Nat} {f : Addr} {fd : FuncData} {ps : List Str} {sp : Addr × Obj → Sp} {x : Str} {e : Expr} {es : List Expr} {t : TA} {q pos : Pos} {p : Addr × Obj}
theorem pe_callP (F : FnP X.prog X.w X.K X.mg X.base k f fd ps sp) (hr : L2H.RoomH k X.A) (hot : L2H.Hot1 X.A p) (hp : p ∈ X.pn) (hg : Gl X x) (hm : X.mg x = some (.ref f)) (hk : PySem.W.keepIn X.K (.ref f) = true) (hb : Binds X.K fd ps []) (ha : PA X (e :: es) t)
    (hd : (x == ("__debug__" : Str)) = false := by decide) (he : starEach (e :: es) X.env = (false, eval e X.env) :: starEach es X.env := by rfl) (hpl : (backTo pos (starEach es X.env)).any (·.1) = false := by rfl) :
    PE X (.Call (.Name x q) (e :: es) [] pos) (tCal (sp p) E0 t) := by
  refine ⟨fun pins s σ H Q I told => wpAny_Call_Name_kw (ld_glob I hg hm ?_ hd)⟩
  refine PySem.W.callWith_K (h₀ := X.base) I.ok.mod.kin hk (thn (ha.run pos pins s σ H _ I told) fun us s1 hh => ?_) he hpl
  obtain ⟨vs, H1, I1, rel, told1⟩ := hh
  refine ⟨I1.kIn, ?_⟩
  have bind := hb s1 us I1.kIn (by rw [List.append_nil, ← rel.length]; exact F.len _ _ _ _ _ told1)
  rw [List.append_nil] at bind
  obtain ⟨a1, a2, a3, a4, a5⟩ := I1.pin p (List.mem_append_left _ hp)
  have pin : L2H.PinOk X.stack H1 s1 p := ⟨a1, a2, fun z => (List.mem_cons.mp (I1.stkSub p.1 z)).elim a3 a4, a5⟩
  refine wpAny_call (codeAny_mono (F.run p X.A X.stack s1 H1 ⟨us, []⟩ us vs Q E0 hr hot pin I1.env0 bind rel told1) fun r s' hq => ?_)
  cases r with
  | error e => exact (show False from hq).elim
  | ok fl =>
    cases fl with
    | ret u => exact I1.after hq
    | next => exact False.elim hq
    | brk => exact False.elim hq
    | cont => exact False.elim hq
end
end FC
set_option Elab.async false
set_option linter.all false
set_option maxRecDepth 100000
set_option maxHeartbeats 4000000
namespace FC
open PySem L2
def termNames : List Str := ["InvalidChain", "InvalidRow", "InvalidNumber", "InvalidText", "TooMany", "NothingToUndo"]
/-- the six classes stand at c0 .. c5 -/
structure SixT (mg : Str → Option Value) (c0 c1 c2 c3 c4 c5 : Addr) : Prop where
  g0 : mg "InvalidChain" = some (.ref c0)
  g1 : mg "InvalidRow" = some (.ref c1)
  g2 : mg "InvalidNumber" = some (.ref c2)
  g3 : mg "InvalidText" = some (.ref c3)
  g4 : mg "TooMany" = some (.ref c4)
  g5 : mg "NothingToUndo" = some (.ref c5)
/-- D is the i-th of them -/
structure OneT (K : PySem.W.Frag) (D : Addr) (i : Nat) (c0 c1 c2 c3 c4 c5 : Addr) : Prop where
  lt : i < 6
  ex : ExcC K D
  k0 : PySem.W.kitOne K (.ref D) (.ref c0) = some (decide (0 = i))
  k1 : PySem.W.kitOne K (.ref D) (.ref c1) = some (decide (1 = i))
  k2 : PySem.W.kitOne K (.ref D) (.ref c2) = some (decide (2 = i))
  k3 : PySem.W.kitOne K (.ref D) (.ref c3) = some (decide (3 = i))
  k4 : PySem.W.kitOne K (.ref D) (.ref c4) = some (decide (4 = i))
  k5 : PySem.W.kitOne K (.ref D) (.ref c5) = some (decide (5 = i))
  kv : PySem.W.kitOne K (.ref D) (.type "ValueError") = some true
def spTerm (K : PySem.W.Frag) (c0 c1 c2 c3 c4 c5 : Addr) : Addr × Obj → Sp := fun p vs H Q _ => ∃ (D : Addr) (i : Nat) (z : Str), vs = [.ref p.1] ∧ Zc (.ref D) none p.2 ∧ (∃ us, p.2.data = .fields us) ∧ OneT K D i c0 c1 c2 c3 c4 c5 ∧ termNames[i]? = some z ∧
  ∀ t H', Same H H' → H' t = some (.tup [.str "error", .str z]) → Q (.ref t) H'
end FC
set_option Elab.async false
set_option linter.all false
set_option maxRecDepth 100000
set_option maxHeartbeats 1000000
/-! _law_told(lambda: ..): the lambda's exceptions bear no context. -/
namespace FC
open PySem PySem.Spec PyProof.Rows L2
/-- another wish of what leaves the code -/
theorem inv_xe {X : Cx} {pins : List (Addr × Obj)} {σ : L2.St} {H : Hp} {s : Shared} {xe : Value → Shared → Prop} (I : Inv X pins σ H s) : Inv { X with xe := xe } pins σ H s :=
  ⟨⟨I.ok.mod, I.ok.kind, I.ok.glob, I.ok.blt, I.ok.above, I.ok.inj, I.ok.has, I.ok.cab, I.ok.hd, I.ok.frames, I.ok.stk, I.ok.exf, I.ok.bs, I.ok.bsz, I.ok.noex, I.ok.exfs, I.ok.funs, I.ok.frf⟩,
    I.os, I.bare, I.base, I.loc, I.cell, I.free, I.freeC, I.pin, I.hok, I.len⟩
/-- the lambda's body, entered at s from the frames out -/
def lamN (X : Cx) (A : Around) (out : List Env) (s : Shared) (H : Hp) (E : XK) (scope : Scope) (f c : Addr) : Cx :=
  { LamX.lamCx X A out s H E scope f c with
    xe := fun e s1 => wpAny (model X.prog X.w) (A.deeper (LamX.lamEnv X scope s.heap.objs.size f c)) (leaving (LamX.lamEnv X scope s.heap.objs.size f c) e) (fun _ s2 => L2N.CX X.prog X.w out H s E e s2) (fun e2 s2 => L2N.CX X.prog X.w out H s E e2 s2) s1 }
section
variable {X : Cx} {pins : List (Addr × Obj)} {σ : L2.St} {H : Hp} {s : Shared}
/-- the lambda at f is called while the frame env runs above X's -/
theorem lam_run {env : Env} {A : Around} {f c : Addr} {pm ctv : Value} {params : Arguments} {body : Expr} {scope : Scope} {k : Nat} {E : XK} {tb : TE} {s1 : Shared} {HZ : Hp} {Q : VK} (I : Inv X pins σ H s) (L : LamX.LamS X.env.scope scope)
    (here : s1.heap.get? f = some (PySem.W.kla_obj "<lambda>" (X.env.qual ++ "<lambda>") params body scope (cloFrom X.env.cells scope.names []) pm c ctv))
    (bind : bindArgs (PySem.W.kla_fn "<lambda>" (X.env.qual ++ "<lambda>") params body scope (cloFrom X.env.cells scope.names []) pm (.ref c) ctv) ⟨[], []⟩ = pure []) (e1 : Env0 X.prog X.w X.K X.mg X.base A (env :: X.stack) s1 HZ) (lim : s1.heap.NoLimit)
    (un : Un (frs X.stack) [] H HZ s.heap s1.heap) (hr : Room (k + 1) A) (hc : HZ c = some (LamX.CodeO c (X.env.qual ++ "<lambda>")))
    (hbody : ∀ (A : Around) (out : List Env) (s : Shared) (H : Hp), Room k (A.deeper (LamX.lamEnv X scope s.heap.objs.size f c)) → PE (lamN X A out s H E scope f c) body tb) (told : tb σ HZ Q) :
    codeAny (model X.prog X.w) A (.call (.ref f) ⟨[], []⟩) (CR (L2N.CX X.prog X.w) (env :: X.stack) X.prog X.w HZ s1 Q E) s1 := by
  obtain ⟨⟨oc, vs, t, o1, o2, o3⟩, _, _⟩ := e1.hok c _ hc
  refine PySem.W.kla_callFunE hr.depth here rfl L.co L.gen rfl ⟨c, oc, vs, t, rfl, o1, o2, o3⟩ ?_
  rw [bind]
  refine wpAny_pure (wpAny_newFunctionEnv (fun y hy => (L.own y hy).2) (fun y hy => absurd hy (by simp)) (fun h1 ns ext => ⟨lim.fresh _ ext, ?_⟩) L.kind)
  have kp : ∀ b o, s1.heap.get? b = some o → h1.get? b = some o := fun b o e => ext.extBut b o (Nat.ne_of_lt (Heap.lt_size e)) (Heap.get?_push_of_some _ e)
  have J := inv_xe (xe := (lamN X A (env :: X.stack) s1 HZ E scope f c).xe) (LamX.lam_start2 (tk := s1.toks + ([] : List (Str × Value)).length) (E := E) (f := f) (c' := c) I L e1 hr.hd un ns kp)
  refine PySem.W.kla_codeExpr (wpAny_mono ((hbody A (env :: X.stack) s1 HZ (hr.deeper _)).run [] _ _ HZ Q J told) (fun v s2 hq => ?_) fun _ _ hq => hq)
  obtain ⟨u, H', J', rv, q⟩ := hq
  exact ⟨u, H', J'.os, J'.bare, J'.base, J'.hok, rv, q⟩
end
theorem takes0N {X : Cx} : L2N.Takes X (fun _ _ _ _ => False) := fun _ _ h => by
  obtain ⟨_, _, _, _, _, _, _, _, _, _, _, _, _, _, _, _, z⟩ := h
  exact z.elim
end FC
set_option Elab.async false
set_option linter.all false
set_option maxRecDepth 100000
set_option maxHeartbeats 1000000
namespace FC
open PySem PySem.Spec PyProof.Rows L2
/-! ### data of chains, for == -/
def vData : V → PyData
  | .str z => .str z
  | .int i => .int i
  | _ => .none
def stepData (ys : List V) : PyData := .tuple (ys.map vData)
def chainData (cs : List (List V)) : PyData := .tuple (cs.map stepData)
theorem dp_flat {K : PySem.W.Frag} {H : Hp} : ∀ {ys : List V}, (∀ y ∈ ys, strInt y = true) → DpAll K H ys (ys.map vData)
  | [], _ => .nil
  | y :: r, h => by
    have h1 := h y (by simp)
    refine .cons ?_ (dp_flat fun z hz => h z (List.mem_cons_of_mem _ hz))
    cases y <;> first | exact .str _ | exact .int _ | cases h1
theorem dp_steps {K : PySem.W.Frag} {H : Hp} : ∀ {xs : List V} {cs : List (List V)}, xs.length = cs.length → (∀ (i : Nat) (x : V) (ys : List V), xs[i]? = some x → cs[i]? = some ys → Dp K H x (stepData ys)) → DpAll K H xs (cs.map stepData)
  | [], [], _, _ => .nil
  | x :: r, ys :: s, hl, h => .cons (h 0 x ys rfl rfl) (dp_steps (by simpa using hl) fun i x ys h1 h2 => h (i + 1) x ys (by simpa using h1) (by simpa using h2))
  | [], _ :: _, hl, _ => by simp at hl
  | _ :: _, [], hl, _ => by simp at hl
theorem chain_dp {K : PySem.W.Frag} {H : Hp} {a : Addr} {cs : List (List V)} (h : ChainAt K H a cs) (hc : chainOk cs = true) : Dp K H (.ref a) (chainData cs) := by
  obtain ⟨xs, h1, h2⟩ := h
  refine .tup h1 (dp_steps (by rw [h2.len, List.length_map]) fun i x ys hx hy => ?_)
  obtain ⟨b, rfl, hb, _⟩ := h2.at_ i x (some ys) hx (by rw [List.getElem?_map, hy]; rfl)
  exact .tup hb (dp_flat (stepOk_strInt (chainOk_steps hc ys (List.mem_of_getElem? hy))))
theorem lay_all : ∀ {ds : List PyData}, (∀ d ∈ ds, d.canLay0 = true) → PyData.canLayAll0 ds = true
  | [], _ => rfl
  | d :: r, h => by
    show (d.canLay0 && PyData.canLayAll0 r) = true
    rw [h d (by simp), lay_all fun z hz => h z (List.mem_cons_of_mem _ hz)]
    rfl
theorem depth_all {n : Nat} : ∀ {ds : List PyData}, (∀ d ∈ ds, d.depth ≤ n) → PyData.depthAll ds ≤ n
  | [], _ => Nat.zero_le _
  | d :: r, h => by
    show max d.depth (PyData.depthAll r) ≤ n
    have h1 := h d (by simp)
    have h2 := depth_all (n := n) fun z hz => h z (List.mem_cons_of_mem _ hz)
    omega
theorem step_shaped {ys : List V} (h : stepOk ys = true) : (stepData ys).canLay0 = true ∧ (stepData ys).depth ≤ 1 := by
  obtain ⟨name, ns, rfl, hn, _⟩ := stepOk_shape h
  have hk : PyData.strOk name = true := by
    have all : ∀ x ∈ names, PyData.strOk x = true := by decide +kernel
    exact all _ hn
  constructor
  · refine lay_all fun d hd => ?_
    obtain ⟨v, hv, rfl⟩ := List.mem_map.mp hd
    rcases List.mem_cons.mp hv with z | z
    · rw [z]
      exact hk
    · obtain ⟨n, _, rfl⟩ := List.mem_map.mp z
      rfl
  · show PyData.depthAll _ + 1 ≤ 1
    have := depth_all (n := 0) (ds := (V.str name :: ns.map V.int).map vData) fun d hd => by
      obtain ⟨v, hv, rfl⟩ := List.mem_map.mp hd
      rcases List.mem_cons.mp hv with z | z
      · rw [z]
        exact Nat.le_refl _
      · obtain ⟨n, _, rfl⟩ := List.mem_map.mp z
        exact Nat.le_refl _
    omega
theorem chain_shaped {cs : List (List V)} (h : chainOk cs = true) : SeqAt.shaped (chainData cs) = true := by
  have hs := chainOk_steps h
  show (PyData.canLayAll0 (cs.map stepData) && decide (PyData.depthAll (cs.map stepData) + 1 ≤ 64)) = true
  rw [lay_all fun d hd => by
    obtain ⟨ys, hy, rfl⟩ := List.mem_map.mp hd
    exact (step_shaped (hs ys hy)).1]
  have := depth_all (n := 1) (ds := cs.map stepData) fun d hd => by
    obtain ⟨ys, hy, rfl⟩ := List.mem_map.mp hd
    exact (step_shaped (hs ys hy)).2
  rw [decide_eq_true (by omega)]
  rfl
def errData (z : Str) : PyData := .tuple [.str "error", .str z]
theorem err_shaped : SeqAt.shaped (errData "InvalidText") = true := by decide +kernel
theorem err_dp {K : PySem.W.Frag} {H : Hp} {t : Addr} {z : Str} (h : H t = some (.tup [.str "error", .str z])) : Dp K H (.ref t) (errData z) := .tup (SqT.of h) (.cons (.str _) (.cons (.str _) .nil))
theorem chain_not_err {cs : List (List V)} (z : Str) : PyData.eqv (chainData cs) (errData z) = false := by
  match cs with
  | [] => rfl
  | [] :: r => rfl
  | (y :: s) :: r => rfl
end FC
set_option Elab.async false
set_option linter.all false
set_option maxRecDepth 100000
set_option maxHeartbeats 1000000
namespace FC
open PySem PySem.Spec PyProof.Rows L2
/-- all but d and the tables of code objects is as it was -/
def Keep (d : Addr) (H H' : Hp) : Prop := ∀ b o, H b = some o → b ≠ d → (∀ ps, o ≠ .tbl ps) → H' b = some o
theorem Keep.refl (d : Addr) (H : Hp) : Keep d H H := fun _ _ h _ _ => h
theorem Keep.trans {d : Addr} {H H1 H2 : Hp} (a : Keep d H H1) (b : Keep d H1 H2) : Keep d H H2 := fun c o h n m => b c o (a c o h n m) n m
theorem Keep.same {d : Addr} {H H' : Hp} (e : Same H H') : Keep d H H' := fun b o h _ _ => e b o h
theorem Keep.sameX {d : Addr} {H H' : Hp} (e : SameX d H H') : Keep d H H' := fun b o h n _ => e b o h n
theorem Keep.ext {d : Addr} {H H' : Hp} (e : LamX.ExtN H H') : Keep d H H' := fun b o h _ m => e b o h m
theorem sqt_keep {K : PySem.W.Frag} {H H' : Hp} {a d : Addr} {xs : List V} (h : SqT K H a xs) (hd : Dice H d) (s : Keep d H H') : SqT K H' a xs := by
  obtain ⟨x, y, e⟩ := hd
  rcases h with (h | ⟨o, h⟩) | h
  · exact .inl (.inl (s _ _ h (ne_of h e (by intro z; cases z)) (fun ps z => by cases z)))
  · exact .inl (.inr ⟨o, s _ _ h (ne_of h e (by intro z; cases z)) (fun ps z => by cases z)⟩)
  · exact .inr h
theorem chain_keep {K : PySem.W.Frag} {H H' : Hp} {a d : Addr} {cs : List (List V)} (h : ChainAt K H a cs) (hc : chainOk cs = true) (hd : Dice H d) (s : Keep d H H') : ChainAt K H' a cs := by
  obtain ⟨xs, h1, h2⟩ := h
  refine ⟨xs, sqt_keep h1 hd s, h2.len, fun i x o hx ho => ?_⟩
  have hi := get_lt ho
  rw [List.length_map] at hi
  have e : (cs.map some)[i]? = some (some cs[i]) := by rw [List.getElem?_map, List.getElem?_eq_getElem hi]; rfl
  rw [e] at ho
  have ho : some cs[i] = o := Option.some.inj ho
  subst ho
  obtain ⟨b, e1, e2, _⟩ := h2.at_ i x _ hx e
  exact ⟨b, e1, sqt_keep e2 hd s, fun y hy => strInt_nice (stepOk_strInt (chainOk_steps hc _ (List.getElem_mem hi)) y hy)⟩
theorem tabs_sameX {T : List (Addr × Str)} {H H' : Hp} {d : Addr} (h : LamX.Tabs T H) (hd : Dice H d) (s : SameX d H H') : LamX.Tabs T H' := fun p hp => by
  obtain ⟨x, y, e⟩ := hd
  obtain ⟨ps, h1, h2, h3⟩ := h p hp
  refine ⟨ps, s _ _ h1 (ne_of h1 e (by intro z; cases z)), h2, fun pos cv hc => ?_⟩
  obtain ⟨c, e1, e2⟩ := h3 pos cv hc
  exact ⟨c, e1, s _ _ e2 (ne_of e2 e (by unfold LamX.CodeO; intro z; cases z))⟩
/-- what stands through a round of the law: the dice of all rounds at t, one of them d, the lambdas' table -/
structure Rd (T : List (Addr × Str)) (t d : Addr) (ds : List Addr) (H : Hp) : Prop where
  tl : H t = some (.lst (ds.map V.ref))
  all : ∀ c ∈ ds, Dice H c
  me : d ∈ ds
  tb : LamX.Tabs T H
theorem Rd.d {T : List (Addr × Str)} {t d : Addr} {ds : List Addr} {H : Hp} (r : Rd T t d ds H) : Dice H d := r.all d r.me
theorem Rd.step {T : List (Addr × Str)} {t d : Addr} {ds : List Addr} {H H' : Hp} (r : Rd T t d ds H) (k : Keep d H H') (hd : Dice H' d) (tb : LamX.Tabs T H') : Rd T t d ds H' := by
  have td : t ≠ d := fun z => by
    obtain ⟨x, y, e⟩ := r.d
    rw [← z, r.tl] at e
    have e := Option.some.inj e
    injection e with e
    match ds, e with
    | c :: _, e => injection e with e; cases e
  refine ⟨k _ _ r.tl td (fun ps z => by cases z), fun c hc => ?_, r.me, tb⟩
  by_cases h : c = d
  · rw [h]
    exact hd
  · obtain ⟨x, y, e⟩ := r.all c hc
    exact ⟨x, y, k _ _ e h (fun ps z => by cases z)⟩
theorem Rd.same {T : List (Addr × Str)} {t d : Addr} {ds : List Addr} {H H' : Hp} (r : Rd T t d ds H) (s : Same H H') : Rd T t d ds H' := r.step (Keep.same s) (r.d.same s) (r.tb.ext s)
theorem Rd.roll {T : List (Addr × Str)} {t d : Addr} {ds : List Addr} {H H' : Hp} (r : Rd T t d ds H) (s : SameX d H H') (hd : Dice H' d) : Rd T t d ds H' := r.step (Keep.sameX s) hd (tabs_sameX r.tb r.d s)
theorem Rd.ext {T : List (Addr × Str)} {t d : Addr} {ds : List Addr} {H H' : Hp} (r : Rd T t d ds H) (s : LamX.ExtN H H') (tb : LamX.Tabs T H') : Rd T t d ds H' := by
  obtain ⟨x, y, e⟩ := r.d
  exact r.step (Keep.ext s) ⟨x, y, s _ _ e (fun ps z => by cases z)⟩ tb
/-- what stands through the law: the dice of all rounds at t, the lambdas' table -/
structure Rt (T : List (Addr × Str)) (t : Addr) (ds : List Addr) (H : Hp) : Prop where
  tl : H t = some (.lst (ds.map V.ref))
  all : ∀ c ∈ ds, Dice H c
  tb : LamX.Tabs T H
theorem Rt.rd {T : List (Addr × Str)} {t d : Addr} {ds : List Addr} {H : Hp} (r : Rt T t ds H) (h : d ∈ ds) : Rd T t d ds H := ⟨r.tl, r.all, h, r.tb⟩
theorem Rd.rt {T : List (Addr × Str)} {t d : Addr} {ds : List Addr} {H : Hp} (r : Rd T t d ds H) : Rt T t ds H := ⟨r.tl, r.all, r.tb⟩
theorem ifNe {x y : V} {A B : Prop} (h : x = y) (hb : B) : if (!decide (x = y)) = true then A else B := by
  rw [decide_eq_true h, if_neg (by decide)]
  exact hb
theorem ifEqvT {x y : PyData} {A B : Prop} (h : PyData.eqv x y = true) (hb : B) : if (!PyData.eqv x y) = true then A else B := by
  rw [h, if_neg (by decide)]
  exact hb
theorem ifEqvF {x y : PyData} {A B : Prop} (h : PyData.eqv x y = false) (hb : A) : if (!PyData.eqv x y) = true then A else B := by
  rw [h, if_pos (by decide)]
  exact hb
theorem ifNot {c : Bool} {A B : Prop} (h : c = true) (hb : B) : if (!c) = true then A else B := by
  rw [h, if_neg (by decide)]
  exact hb
end FC
set_option Elab.async false
set_option linter.all false
set_option maxRecDepth 100000
set_option maxHeartbeats 4000000
namespace FC
open PySem L2
def spRounds (K : PySem.W.Frag) : Sp := fun vs H Q _ => ∃ (a : Addr) (ns : List Int), vs = [.ref a, .int 4] ∧ SqL K H a (ns.map V.int) ∧ ns.length ≤ 63 ∧
  ∀ (t : Addr) (ds : List Addr) H', Same H H' → ds.length ≤ 4 → H' t = some (.lst (ds.map V.ref)) → (∀ d ∈ ds, Dice H' d ∧ H d = none) → H t = none → Q (.ref t) H'
section
variable {P : Program} {w : World} {K : PySem.W.Frag} {mg : Str → Option Value} {base : Heap}
theorem scRounds : FnScope ["_law_script", "_law_most", "_law_k"] ["_law_script", "_law_most"] (defScope sRounds) := ⟨rfl, rfl, rfl, by decide +kernel, rfl, by decide +kernel, by decide +kernel⟩
theorem ok_rounds {f : Addr} {fd : FuncData} (F : Fun K "_law_rounds" "_law_rounds" sRounds f fd) (T : Blt mg) (CC : Cal P w K mg base CX0 1 "_law_cell" ["_law_script", "_law_k"] (spCellL K)) : FnOk P w K mg base CX0 2 f fd ["_law_script", "_law_most"] (spRounds K) := by
  refine F.ok scRounds (fun vs H Q E h => ?_) (fun cdv A outer s H vs Q E hr h => ?_)
  · obtain ⟨a, k, rfl, _⟩ := h
    rfl
  · obtain ⟨a, ns, rfl, ha, hl, q⟩ := h
    have nd := scRounds.nd
    refine ⟨_, pss_one (ps_ret (pe_lc (own := [("_law_k", 2)]) (g := gName 2) (by rfl) nd
      (pi_range1 (by rfl) T.range (pa_cons (pe_callB (call_max2 rfl) (by rfl) T.max (by decide +kernel) (pa_cons pe_int (pa_cons (pe_callB (call_min2 rfl) (by rfl) T.min (by decide +kernel) (pa_cons (pv 1) (pa_cons (pe_callB call_len (by rfl) T.len PySem.boot_len (pa_cons (pv 0) pa_nil)) pa_nil))) pa_nil))) pa_nil))
      (blkOk_by (own := [("_law_k", 2)]) (N := ["_law_script", "_law_most", "_law_k"]) (sc := defScope sRounds) (by decide +kernel)) (fun _ _ _ _ _ => pg_name (i := 2) nd rfl (Or.inl rfl))
      (fun _ _ _ _ _ => pts_nil) (fun _ _ _ _ _ => pe_lst (pa_cons (pe_cal CC hr pass0 (pa_cons (pv 0) (pa_cons (pv 2) pa_nil))) (pa_cons pe_int pa_nil))))), ?_⟩
    have hN : ∃ N : Nat, (if (if (ns.length : Int) < 4 then (ns.length : Int) else 4) > 1 then (if (ns.length : Int) < 4 then (ns.length : Int) else 4) else 1) = (N : Int) ∧ N ≤ 4 := by
      by_cases h1 : (ns.length : Int) < 4
      · rw [if_pos h1]
        by_cases h2 : (ns.length : Int) > 1
        · rw [if_pos h2]
          exact ⟨ns.length, rfl, by omega⟩
        · rw [if_neg h2]
          exact ⟨1, rfl, by decide⟩
      · rw [if_neg h1]
        exact ⟨4, by decide, by decide⟩
    obtain ⟨N, eN, hN⟩ := hN
    have eL : ((ns.map V.int).length : Int) = (ns.length : Int) := by rw [List.length_map]
    refine ⟨_, rfl, _, rfl, _, (ns.map V.int).length, rfl, .inl ⟨_, ha, rfl⟩, _, _, rfl, _, _, rfl, (N : Int), ?_, by omega, by omega, fun D nD => ?_⟩
    · rw [eL, eN]
    have s1 := same_upd (o := .lst []) (Same.refl H) nD
    have eT : ((N : Int)).toNat = N := by omega
    rw [eT]
    refine lc_range (lo := 0) (n := N) (fun j H3 => ∃ ds : List Addr, ds.length = j ∧ H3 D = some (.lst (ds.map V.ref)) ∧ Same H H3 ∧ ∀ d ∈ ds, Dice H3 d ∧ H d = none ∧ d ≠ D)
      ⟨[], rfl, upd_same, s1, fun d hd => by simp at hd⟩ ?_ ?_
    · rintro j H3 hj ⟨ds, hds, hD, s3, each⟩
      refine ⟨rfl, ?_⟩
      have nDH : ∀ b o, H b = some o → b ≠ D := fun b o e => ne_of_none e nD
      refine ⟨_, rfl, _, rfl, a, ns, _, rfl, Same.seq s3 ha, hl, fun n H4 s4 => ⟨(by show 2 ≤ sizeLine; decide), fun d nd' => ⟨ds.map V.ref, ?_, ?_, ds ++ [d], ?_, ?_, ?_, ?_⟩⟩⟩
      · have h4 := s4 _ _ hD
        rw [upd_ne (ne_of_none h4 nd')]
        exact h4
      · rw [List.length_map]
        exact small1000 (by omega)
      · rw [List.length_append, hds]
        rfl
      · rw [upd_same, List.map_append]
        rfl
      · intro b o e
        have e4 := s4 _ _ (s3 b o e)
        rw [upd_ne (nDH b o e), upd_ne (ne_of_none e4 nd')]
        exact e4
      · intro c hc
        have dD : d ≠ D := fun z => by
          have h4 := s4 _ _ hD
          rw [← z, nd'] at h4
          cases h4
        rcases List.mem_append.mp hc with z | z
        · obtain ⟨⟨x, y, e1⟩, e2, e3⟩ := each c z
          have e4 := s4 _ _ e1
          refine ⟨⟨x, y, ?_⟩, e2, e3⟩
          rw [upd_ne e3, upd_ne (ne_of_none e4 nd')]
          exact e4
        · rw [List.mem_singleton.mp z]
          refine ⟨⟨n, 0, ?_⟩, ?_, dD⟩
          · rw [upd_ne dD]
            exact upd_same
          · exact Same.free (Same.trans s3 s4) nd'
    · rintro H3 ⟨ds, hds, hD, s3, each⟩
      exact q D ds H3 s3 (by omega) hD (fun d hd => ⟨(each d hd).1, (each d hd).2.1⟩) nD
end
end FC
set_option Elab.async false
set_option linter.all false
set_option maxRecDepth 100000
set_option maxHeartbeats 4000000
/-! The forms that the law names, by the kernel. -/
namespace FC
open PySem PySem.Spec PyProof.Rows L2
instance dEl : DecidableEq (List Int × Mix) := inferInstance
instance dEs : DecidableEq (List (List (List Int × Mix))) := inferInstance
instance dBs : DecidableEq (List (List Int × Int)) := inferInstance
instance dCs : DecidableEq (List CLine) := inferInstance
instance dFm : DecidableEq Frm' := instDecidableEqProd
def mix0 : Mix := [(0, 1, 1)]
theorem line_all : ∀ (i : Fin 7) (j : Fin 9), formM 100 [.line ((i.val : Int) - 3) ((j.val : Int) - 4)] = if (i.val = 3 ∧ j.val = 4) then formM 100 [.line 0 0] else some (1, [[(1, 0)]], [([], 0)], [[([(j.val : Int) - 4], mix0), ([((i.val : Int) - 3) + ((j.val : Int) - 4)], mix0)]]) := by decide +kernel
theorem gaps_is : formM 100 [.gaps] = some (1, [[(1, 0)]], [([], 0), ([1], 0)], [[([0], mix0), ([1], [(1, 1, 1)])], [([-1], mix0), ([0], [(1, 1, 1)])]]) := by decide +kernel
theorem count_is : formM 100 [.count] = some (1, [[(1, 0)]], [([], 0), ([0], 0)], [[([1], [(1, 1, 1)]), ([1], [(1, 1, 1)])], [([2], [(0, -1, 1), (1, 2, 1)]), ([2], [(0, -1, 1), (1, 2, 1)])]]) := by decide +kernel
theorem twice_is : formM 100 [.twice] = some (1, [[(2, 0)]], [([], 0)], [[([0, 0], mix0), ([1, 1], mix0)]]) := by decide +kernel
def keepF (m r : Int) : Frm' := (m, [(upto m).map fun x => (if x = r then 1 else 0, 0)], [([], 0)], [(upto (2 * m)).map fun x => (if x % m = r then [x] else [], mix0)])
def everyF (m r : Int) : Frm' := (1, (upto m).map fun x => [(if x = r then 1 else 0, (x + 1) % m)], (upto m).map fun x => (List.replicate x.toNat 0, x), (upto m).map fun x => (upto 2).map fun y => (if x = r then [y] else [], [((x + 1) % m, 1, 1)]))
theorem keep_all : ∀ (i : Fin 2) (j : Fin 3), j.val < i.val + 2 → formM 100 [.keep ((i.val : Int) + 2) j.val] = some (keepF ((i.val : Int) + 2) j.val) := by decide +kernel
theorem every_all : ∀ (i : Fin 2) (j : Fin 3), j.val < i.val + 2 → formM 100 [.every ((i.val : Int) + 2) j.val] = some (everyF ((i.val : Int) + 2) j.val) := by decide +kernel
theorem line_is {a b : Int} (a0 : -3 ≤ a) (a1 : a ≤ 3) (b0 : -4 ≤ b) (b1 : b ≤ 4) (h : ¬(a = 0 ∧ b = 0)) : formM 100 [.line a b] = some (1, [[(1, 0)]], [([], 0)], [[([b], mix0), ([a + b], mix0)]]) := by
  have := line_all ⟨(a + 3).toNat, by omega⟩ ⟨(b + 4).toNat, by omega⟩
  rw [if_neg (by show ¬((a + 3).toNat = 3 ∧ (b + 4).toNat = 4); omega)] at this
  simp only [show (((a + 3).toNat : Nat) : Int) - 3 = a by omega, show (((b + 4).toNat : Nat) : Int) - 4 = b by omega] at this
  exact this
theorem keep_is {m r : Int} (m0 : 2 ≤ m) (m1 : m < 4) (r0 : 0 ≤ r) (r1 : r < m) : formM 100 [.keep m r] = some (keepF m r) := by
  have := keep_all ⟨(m - 2).toNat, by omega⟩ ⟨r.toNat, by omega⟩ (by show r.toNat < (m - 2).toNat + 2; omega)
  simp only [show (((m - 2).toNat : Nat) : Int) + 2 = m by omega, show ((r.toNat : Nat) : Int) = r by omega] at this
  exact this
theorem every_is {m r : Int} (m0 : 2 ≤ m) (m1 : m < 4) (r0 : 0 ≤ r) (r1 : r < m) : formM 100 [.every m r] = some (everyF m r) := by
  have := every_all ⟨(m - 2).toNat, by omega⟩ ⟨r.toNat, by omega⟩ (by show r.toNat < (m - 2).toNat + 2; omega)
  simp only [show (((m - 2).toNat : Nat) : Int) + 2 = m by omega, show ((r.toNat : Nat) : Int) = r by omega] at this
  exact this
theorem ok_line : ∀ (i : Fin 7) (j : Fin 9), chainOk ([Stp.line ((i.val : Int) - 3) ((j.val : Int) - 4)].map Stp.v) = true := by decide +kernel
theorem ok_keep : ∀ (i : Fin 2) (j : Fin 3), j.val < i.val + 2 → chainOk ([Stp.keep ((i.val : Int) + 2) j.val].map Stp.v) = true ∧ chainOk ([Stp.every ((i.val : Int) + 2) j.val].map Stp.v) = true := by decide +kernel
theorem okc_line {a b : Int} (a0 : -3 ≤ a) (a1 : a ≤ 3) (b0 : -4 ≤ b) (b1 : b ≤ 4) : chainOk ([Stp.line a b].map Stp.v) = true := by
  have := ok_line ⟨(a + 3).toNat, by omega⟩ ⟨(b + 4).toNat, by omega⟩
  simp only [show (((a + 3).toNat : Nat) : Int) - 3 = a by omega, show (((b + 4).toNat : Nat) : Int) - 4 = b by omega] at this
  exact this
theorem okc_keep {m r : Int} (m0 : 2 ≤ m) (m1 : m < 4) (r0 : 0 ≤ r) (r1 : r < m) : chainOk ([Stp.keep m r].map Stp.v) = true ∧ chainOk ([Stp.every m r].map Stp.v) = true := by
  have := ok_keep ⟨(m - 2).toNat, by omega⟩ ⟨r.toNat, by omega⟩ (by show r.toNat < (m - 2).toNat + 2; omega)
  simp only [show (((m - 2).toNat : Nat) : Int) + 2 = m by omega, show ((r.toNat : Nat) : Int) = r by omega] at this
  exact this
/-- a chain of one step -/
theorem chain1 {K : PySem.W.Frag} {H : Hp} {c b : Addr} {p : Stp} (hc : SqT K H c [.ref b]) (hb : SqT K H b p.v) : ChainAt K H c ([p].map Stp.v) := ⟨[.ref b], hc, rfl, fun i x o hx ho => by
  have nice : ∀ y ∈ p.v, Nice K H y := fun y hy => by
    rcases List.mem_cons.mp hy with rfl | hy
    · exact Nice.str _
    · obtain ⟨n, _, rfl⟩ := List.mem_map.mp hy
      exact Nice.int _
  match i, hx, ho with
  | 0, hx, ho => cases hx; cases ho; exact ⟨b, rfl, hb, nice⟩
  | n + 1, hx, ho => simp at hx⟩
/-- data that a form is -/
theorem same_data {d : PyData} (h : SeqAt.shaped d = true) {A B : Prop} (hb : B) : if (!PyData.eqv d d) = true then A else B := ifEqvT (SeqAt.eqv_refl _ (SeqAt.canLay_of_shaped h)) hb
def mix0P : PT := .tup [.tup [.int 0, .tup [.int 1, .int 1]]]
/-- form of a chain of one step, compared with a display of what it is -/
theorem form_ne {K : PySem.W.Frag} {c0 : Addr} {E : XK} {σ : L2.St} {H : Hp} {targs : TA} {tu : TE} {A B : TS} {D : Ends} {r : Frm'} (p : Stp)
    (ha : ∀ H1 (Q : List V → Hp → Prop), Q (p.args.map V.int) H1 → targs σ H1 Q) (hok : p.ok) (hc : chainOk ([p].map Stp.v) = true) (hf : formM 100 [p] = some r)
    (hu : Gv K σ H tu (frmP r)) (sh : SeqAt.shaped (pdata (frmP r)) = true) (k : ∀ H2, Same H H2 → B D σ H2) :
    tIfS (tTest (tOp (rNeD K) (tCal (spForm K c0) E (tCons (tTup (tCons (tTup (tCons (tC (.str p.name)) targs)) tNil)) tNil)) tu)) A B D σ H := by
  have h4 : 4000 < sizeLine := by decide
  have hl : p.args.length ≤ 4 := by cases p <;> exact Nat.le_of_ble_eq_true rfl
  refine ha _ _ ⟨by
    rw [List.length_cons, List.length_map]
    omega, fun b nb => ⟨(by show 1 ≤ sizeLine; omega), fun c nc => ?_⟩⟩
  have s1 := same_upd (o := .tup (V.str p.name :: p.args.map V.int)) (Same.refl H) nb
  have s2 := same_upd (o := .tup [V.ref b]) (Same.refl _) nc
  refine ⟨.ref c, rfl, .inl ⟨c, [p], 100, r, rfl, chain1 (p := p) sqt_new (sqt_same s2 sqt_new), fun q hq => by rw [List.mem_singleton.mp hq]; exact hok, hc, hf, fun t H2 s3 ht => ?_⟩⟩
  have s4 := Same.trans (Same.trans s1 s2) s3
  refine hu _ _ s4 fun x H3 s5 hx => ⟨_, _, ((frm_p ht).wk (Wk.of s5)).dp, hx.dp, sh, sh, _, rfl, ?_⟩
  exact same_data sh (k H3 (Same.trans s4 s5))
theorem seq_j {A R : TS} {D : Ends} {σ : L2.St} {H : Hp} (J : L2.St → Hp → Prop) (rest : ∀ σ2 H2, J σ2 H2 → R D σ2 H2) (h : (∀ σ2 H2, J σ2 H2 → R D σ2 H2) → tSeq A R D σ H) : tSeq A R D σ H := h rest
theorem pair_if {K : PySem.W.Frag} {σ : L2.St} {H : Hp} {A B : TS} {D : Ends} {i j : Nat} {a b : Int} (hi : σ[i]? = some (some (.int a))) (hj : σ[j]? = some (some (.int b)))
    (kn : (a = 0 ∧ b = 0) → ∀ H2, Same H H2 → B D σ H2) (ky : ¬(a = 0 ∧ b = 0) → ∀ H2, Same H H2 → A D σ H2) :
    tIfS (tTest (tOp (rNeD K) (tTup (tCons (tVar i) (tCons (tVar j) tNil))) (tTup (tCons (tC (.int 0)) (tCons (tC (.int 0)) tNil))))) A B D σ H := by
  unfold tIfS tTest tOp
  refine (gv_tup (K := K) (gvs_cons (gv_num hi) (gvs_cons (gv_num hj) gvs_nil)) (Nat.le_of_ble_eq_true rfl)).use fun x H1 s1 hx => ?_
  refine (gv_tup (K := K) (gvs_cons gv_int (gvs_cons gv_int gvs_nil)) (Nat.le_of_ble_eq_true rfl)).use fun y H2 s2 hy => ?_
  have s3 := Same.trans s1 s2
  refine ⟨_, _, (hx.wk (Wk.of s2)).dp, hy.dp, rfl, rfl, _, rfl, ?_⟩
  have e : PyData.eqv (pdata (.tup [.int a, .int b])) (pdata (.tup [.int 0, .int 0])) = decide (a = 0 ∧ b = 0) := by
    show (a == 0 && (b == 0 && true)) = _
    by_cases h1 : a = 0 <;> by_cases h2 : b = 0 <;> simp [h1, h2]
  rw [e]
  by_cases h : a = 0 ∧ b = 0
  · rw [decide_eq_true h]
    exact kn h H2 s3
  · rw [decide_eq_false h]
    exact ky h H2 s3
theorem gv_add {K : PySem.W.Frag} {σ : L2.St} {H : Hp} {i j : Nat} {a b : Int} (hi : σ[i]? = some (some (.int a))) (hj : σ[j]? = some (some (.int b))) : Gv K σ H (tOp (rI0 fun i j => .int (i + j)) (tVar i) (tVar j)) (.int (a + b)) := fun H1 Q s k => ⟨_, hi, _, hj, _, _, rfl, rfl, k _ H1 (Same.refl H1) .int⟩
theorem PAts.append {K : PySem.W.Frag} {H : Hp} : ∀ {xs ys : List V} {ps qs : List PT}, PAts K H xs ps → PAts K H ys qs → PAts K H (xs ++ ys) (ps ++ qs)
  | xs, ys, [], qs, h, h2 => by
    unfold PAts at h
    subst h
    exact h2
  | xs, ys, p :: ps, qs, h, h2 => by
    unfold PAts at h
    obtain ⟨x, r, rfl, h1, h3⟩ := h
    exact .cons h1 (h3.append h2)
theorem gv_two {K : PySem.W.Frag} {σ : L2.St} {H : Hp} {t : TE} {p : PT} (g : Gv K σ H t p) : Gv K σ H (tOp (rRepN K) (tTup (tCons t tNil)) (tC (.int 2))) (.tup [p, p]) := fun H1 Q s k => g H1 _ s fun x H2 s2 hx => ⟨(by show 1 ≤ sizeLine; decide), fun a na => ⟨a, 2, [x], rfl, rfl, sqt_new, by simp, by decide, by decide, (by show 1 ≤ 1000; decide), fun q H3 s3 hq => by
    have s4 := same_upd (o := .tup [x]) (Same.refl H2) na
    have h := hx.wk (Wk.of (Same.trans s4 s3))
    exact k _ _ (Same.trans s2 (Same.trans s4 s3)) (.tup hq (.cons h (.cons h .nil)))⟩⟩
end FC
set_option Elab.async false
set_option linter.all false
set_option maxRecDepth 100000
set_option maxHeartbeats 4000000
/-! Displays with comprehensions over ranges. -/
namespace FC
open PySem PySem.Spec PyProof.Rows L2
section
variable {K : PySem.W.Frag} {σ : L2.St} {H : Hp} {t u ta tb : TE} {p q : PT}
/-- a number -/
def Gn (σ : L2.St) (t : TE) (n : Int) : Prop := ∀ H1 (Q : VK), Q (.int n) H1 → t σ H1 Q
theorem gn_c {i : Int} : Gn σ (tC (.int i)) i := fun H1 Q k => k
theorem gn_v {i : Nat} {n : Int} (h : σ[i]? = some (some (.int n))) : Gn σ (tVar i) n := fun H1 Q k => ⟨_, h, k⟩
theorem gn_add {a b : Int} (x : Gn σ ta a) (y : Gn σ tb b) : Gn σ (tOp (rI0 fun i j => .int (i + j)) ta tb) (a + b) := fun H1 Q k => x _ _ (y _ _ ⟨_, _, rfl, rfl, k⟩)
theorem gn_mod {a b : Int} (x : Gn σ ta a) (y : Gn σ tb b) (h : 0 < b) : Gn σ (tOp (rI (fun _ j => 0 < j) fun i j => .int (i % j)) ta tb) (a % b) := fun H1 Q k => x _ _ (y _ _ ⟨_, _, rfl, rfl, h, k⟩)
theorem gn_mul2 {b : Int} (x : Gn σ ta 2) (y : Gn σ tb b) : Gn σ (tOp (rI CMul fun i j => .int (i * j)) ta tb) (2 * b) := fun H1 Q k => x _ _ (y _ _ ⟨_, _, rfl, rfl, .inl (by decide), k⟩)
theorem gn_eq {a b : Int} (x : Gn σ ta a) (y : Gn σ tb b) : Gn σ (tCB (fun xs H Q => (∃ i, xs = [V.int i] ∧ Q (V.int i) H) ∨ ∃ k, xs = [V.bl k] ∧ Q (V.int (if k = true then 1 else 0)) H) (tCons (tOp rEq ta tb) tNil)) (if a = b then 1 else 0) := fun H1 Q k => x _ _ (y _ _ ⟨rfl, .inr ⟨_, rfl, by
  by_cases h : a = b
  · rw [if_pos h] at k
    subst h
    simpa using k
  · rw [if_neg h] at k
    have e : decide (V.int a = V.int b) = false := decide_eq_false fun z => h (by injection z)
    rw [e]
    exact k⟩⟩)
theorem gv_n {n : Int} (h : Gn σ t n) : Gv K σ H t (.int n) := fun H1 Q s k => h _ _ (k _ H1 (Same.refl H1) .int)
theorem gv_if {a b : Int} (x : Gn σ ta a) (y : Gn σ tb b) (ht : Gv K σ H t p) (hu : Gv K σ H u q) : Gv K σ H (tIf (tTest (tOp rEq ta tb)) t u) (if a = b then p else q) := fun H1 Q s k => x _ _ (y _ _ ⟨rfl, _, rfl, by
  by_cases h : a = b
  · rw [if_pos h] at k
    subst h
    rw [decide_eq_true rfl, if_pos rfl]
    exact ht _ _ s k
  · rw [if_neg h] at k
    rw [decide_eq_false fun z => h (by injection z), if_neg (by decide)]
    exact hu _ _ s k⟩)
theorem flat_rep {α : Type} (x : α) : ∀ n, (List.replicate n [x]).flatten = List.replicate n x
  | 0 => rfl
  | n + 1 => by
    rw [List.replicate_succ, List.flatten_cons, flat_rep x n, List.replicate_succ]
    rfl
theorem gv_rep {i : Nat} {n : Int} (h : σ[i]? = some (some (.int n))) (h0 : 0 ≤ n) (h1 : n ≤ 1000) : Gv K σ H (tOp (rRepN K) (tTup (tCons (tC (.int 0)) tNil)) (tVar i)) (.tup ((List.replicate n.toNat 0).map .int)) := fun H1 Q s k => by
  refine ⟨(by show 1 ≤ sizeLine; decide), fun a na => ⟨_, h, a, n, [.int 0], rfl, rfl, sqt_new, by simp, h0, h1, (by show 1 ≤ 1000; decide), fun q H3 s3 hq => k _ _ (Same.trans (same_upd (Same.refl H1) na) s3) (.tup hq ?_)⟩⟩
  rw [flat_rep, show List.replicate n.toNat (V.int 0) = (List.replicate n.toNat (0 : Int)).map V.int by rw [List.map_replicate]]
  exact pats_ints _
theorem upto_at {n : Int} {i : Nat} (h : i < n.toNat) : (upto n)[i]? = some (i : Int) := by
  unfold upto
  rw [List.getElem?_map, List.getElem?_range h]
  rfl
theorem upto_size (n : Int) : (upto n).length = n.toNat := by
  unfold upto
  rw [List.length_map, List.length_range]
/-- tuple([.. for v in range(n)]) -/
theorem gv_comp {v : Nat} {tr : TA} {te : TE} {n : Int} (f : Int → PT)
    (hr : ∀ H1 (Q : List V → Hp → Prop), Q [.int n] H1 → tr σ H1 Q) (hn : n ≤ 1000) (h0 : 0 ≤ n)
    (hw : ∀ x, wipe ((wipe σ [v]).set v x) [v] = wipe σ [v])
    (he : ∀ (i : Int), 0 ≤ i → i < n → Gv K ((wipe σ [v]).set v (some (.int i))) H te (f i)) :
    Gv K σ H (tCB (fun xs H_1 Q => ∃ p ys, xs = [V.ref p] ∧ ((SqL K H_1 p ys ∧ ∀ (l : Addr), H_1 l = none → Q (V.ref l) (upd H_1 l (HO.tup ys))) ∨ SqT K H_1 p ys ∧ Q (V.ref p) H_1)) (tCons (tLc (iRng1 tr) (gName v) tYes te [v]) tNil)) (.tup ((upto n).map f)) := fun H1 Q s k => by
  refine hr _ _ ?_
  have hsl : 4000 < sizeLine := by decide
  refine ⟨n, rfl, by omega, by omega, fun D hD => ?_⟩
  refine lc_ls (R := PAt K) (walk_range (lo := 0) (n := n.toNat)) fst_PAt ((upto n).map f) (by rw [List.length_map, upto_size]) (by omega) hD (fun _ _ => True.intro) ?_ ?_
  · rintro i x y H2 H3 Nx hy s2 ⟨rfl, rfl⟩ fin
    have hi : i < n.toNat := by
      have := get_lt hy
      rw [List.length_map, upto_size] at this
      exact this
    rw [List.getElem?_map, upto_at hi] at hy
    obtain rfl : f (i : Int) = y := Option.some.inj hy
    show gName v (V.int (0 + (i : Int))) _ _ _
    rw [show (0 : Int) + (i : Int) = i by omega]
    refine ⟨hw _, ?_⟩
    show te _ _ _
    exact he i (by omega) (by omega) _ _ (Same.trans s s2) fun x H4 s4 hx => fin x H4 s4 hx
  · intro H2 us s2 hus hls
    exact ⟨D, us, rfl, .inl ⟨SqL.of hus, fun l nl => k _ _ (Same.trans s2 (same_upd (Same.refl H2) nl)) (.tup sqt_new (pats_ls (hls.wk fst_PAt (Wk.of (same_upd (Same.refl H2) nl)))))⟩⟩
theorem gv_tupof {i : Nat} {e : Addr} {us : List V} {ps : List PT} (h : σ[i]? = some (some (.ref e))) (he : H e = some (.lst us)) (hl : PAts K H us ps) :
    Gv K σ H (tCB (fun xs H_1 Q => ∃ p ys, xs = [V.ref p] ∧ ((SqL K H_1 p ys ∧ ∀ (l : Addr), H_1 l = none → Q (V.ref l) (upd H_1 l (HO.tup ys))) ∨ SqT K H_1 p ys ∧ Q (V.ref p) H_1)) (tCons (tVar i) tNil)) (.tup ps) := fun H1 Q s k =>
  ⟨_, h, e, us, rfl, .inl ⟨SqL.of (s _ _ he), fun l nl => k _ _ (same_upd (Same.refl H1) nl) (.tup sqt_new (hl.wk (Wk.of (same_upd s nl))))⟩⟩
end
theorem keep_p (m r : Int) : frmP (keepF m r) = .tup [.int m, .tup [.tup ((upto m).map fun x => .tup [.int (if x = r then 1 else 0), .int 0])], .tup [.tup [.tup [], .int 0]], .tup [.tup ((upto (2 * m)).map fun x => .tup [if x % m = r then .tup [.int x] else .tup [], mix0P])]] := by
  show PT.tup [.int m, .tup [.tup (((upto m).map fun x => ((if x = r then (1 : Int) else 0, (0 : Int)) : Int × Int)).map pairP)], _, .tup [.tup (((upto (2 * m)).map fun x => ((if x % m = r then [x] else [], mix0) : List Int × Mix)).map elP)]] = _
  rw [List.map_map, List.map_map]
  have e : (elP ∘ fun x : Int => ((if x % m = r then [x] else [], mix0) : List Int × Mix)) = fun x : Int => PT.tup [if x % m = r then .tup [.int x] else .tup [], mix0P] := by
    funext x
    show PT.tup [PT.tup ((if x % m = r then [x] else []).map .int), mix0P] = _
    split <;> rfl
  rw [e]
  rfl
theorem every_p (m r : Int) : frmP (everyF m r) = .tup [.int 1, .tup ((upto m).map fun x => .tup [.tup [.int (if x = r then 1 else 0), .int ((x + 1) % m)]]), .tup ((upto m).map fun x => .tup [.tup ((List.replicate x.toNat 0).map .int), .int x]), .tup ((upto m).map fun x => .tup ((upto 2).map fun y => .tup [if x = r then .tup [.int y] else .tup [], .tup [.tup [.int ((x + 1) % m), .tup [.int 1, .int 1]]]]))] := by
  show PT.tup [.int 1, .tup (((upto m).map fun x => [((if x = r then (1 : Int) else 0, (x + 1) % m) : Int × Int)]).map lineP), .tup (((upto m).map fun x => ((List.replicate x.toNat 0, x) : List Int × Int)).map basP), .tup (((upto m).map fun x => (upto 2).map fun y => ((if x = r then [y] else [], [((x + 1) % m, 1, 1)]) : List Int × Mix)).map elsP)] = _
  rw [List.map_map, List.map_map, List.map_map]
  have e : (elsP ∘ fun x : Int => (upto 2).map fun y => ((if x = r then [y] else [], [((x + 1) % m, 1, 1)]) : List Int × Mix)) = fun x : Int => PT.tup ((upto 2).map fun y => .tup [if x = r then .tup [.int y] else .tup [], .tup [.tup [.int ((x + 1) % m), .tup [.int 1, .int 1]]]]) := by
    funext x
    show PT.tup (((upto 2).map fun y => ((if x = r then [y] else [], [((x + 1) % m, 1, 1)]) : List Int × Mix)).map elP) = _
    rw [List.map_map]
    congr 2
    funext y
    show PT.tup [PT.tup ((if x = r then [y] else []).map .int), _] = _
    split <;> rfl
  rw [e]
  rfl
theorem sh_all : ∀ (i : Fin 2) (j : Fin 3), SeqAt.shaped (pdata (frmP (keepF ((i.val : Int) + 2) j.val))) = true ∧ SeqAt.shaped (pdata (frmP (everyF ((i.val : Int) + 2) j.val))) = true := by decide +kernel
theorem sh_is {m r : Int} (m0 : 2 ≤ m) (m1 : m < 4) (r0 : 0 ≤ r) (r1 : r < m) : SeqAt.shaped (pdata (frmP (keepF m r))) = true ∧ SeqAt.shaped (pdata (frmP (everyF m r))) = true := by
  have := sh_all ⟨(m - 2).toNat, by omega⟩ ⟨r.toNat, by omega⟩
  simp only [show (((m - 2).toNat : Nat) : Int) + 2 = m by omega, show ((r.toNat : Nat) : Int) = r by omega] at this
  exact this
theorem rd_upd {t d e : Addr} {ds : List Addr} {H : Hp} {o : HO} (r : Rd [] t d ds H) (et : t ≠ e) (ed : e ∉ ds) : Rd [] t d ds (upd H e o) := by
  refine ⟨(upd_ne et).trans r.tl, fun c hc => ?_, r.me, fun p hp => by cases hp⟩
  obtain ⟨x, y, z⟩ := r.all c hc
  have hce : c ≠ e := fun q => ed (by rw [← q]; exact hc)
  exact ⟨x, y, (upd_ne hce).trans z⟩
theorem rd_new {t d e : Addr} {ds : List Addr} {H : Hp} (r : Rd [] t d ds H) (ne : H e = none) : t ≠ e ∧ e ∉ ds := by
  refine ⟨fun z => ?_, fun z => ?_⟩
  · have := r.tl
    rw [z, ne] at this
    cases this
  · obtain ⟨x, y, w⟩ := r.all e z
    rw [ne] at w
    cases w
def entP (m r x : Int) : PT := .tup ((upto 2).map fun y => .tup [if x = r then .tup [.int y] else .tup [], .tup [.tup [.int ((x + 1) % m), .tup [.int 1, .int 1]]]])
end FC
set_option Elab.async false
set_option linter.all false
set_option maxRecDepth 100000
set_option maxHeartbeats 4000000
namespace FC
open PySem PySem.Spec PyProof.Rows L2
structure Lib14 (P : Program) (w : World) (K : PySem.W.Frag) (mg : Str → Option Value) (base : Heap) (c0 : Addr) : Prop where
  blt : Blt mg
  rounds : Cal P w K mg base CX0 2 "_law_rounds" ["_law_script", "_law_most"] (spRounds K)
  roll : Cal P w K mg base CX0 2 "_law_roll" ["_law_dice", "_law_many"] spRoll
  form : Cal P w K mg base (L2N.CX P w) 11 "form" ["chain"] (spForm K c0)
abbrev NL : List Str := ["_law_script", "_law_dice", "_law_a", "_law_b", "_law_by", "_law_self_mix", "_law_due", "_law_two", "_law_left", "_law_counts", "_law_rows", "_law_entries", "_law_at", "_law_after", "_law_x"]
def spLaw (K : PySem.W.Frag) : Sp := fun vs H Q _ => ∃ (a : Addr) (ns : List Int), vs = [.ref a] ∧ SqL K H a (ns.map V.int) ∧ ns.length ≤ 63 ∧ ∀ H', Q (.bl true) H'
section
variable {P : Program} {w : World} {K : PySem.W.Frag} {mg : Str → Option Value} {base : Heap}
theorem scLaw : FnScope NL ["_law_script"] (defScope sLaw) := ⟨rfl, rfl, rfl, by decide +kernel, rfl, by decide +kernel, by decide +kernel⟩
theorem ok_law {f c c0 : Addr} {dV kV doc pm ct oc : Value} {an od : Option Addr} {osl : Array (Option Value)} (B : Lib14 P w K mg base c0)
    (lk : K.lookup f = some ⟨oc, od, .func (PySem.W.fnOf "law" "law" (defArgs sLaw) (defBody sLaw) (defScope sLaw) dV kV doc pm an (.ref c) ct), osl⟩) (hcd : PySem.W.codeIn K (.ref c) "law" = true) :
    FnOk P w K mg base CX0 13 f (PySem.W.fnOf "law" "law" (defArgs sLaw) (defBody sLaw) (defScope sLaw) dV kV doc pm an (.ref c) ct) ["_law_script"] (spLaw K) := by
  refine fn_of lk hcd scLaw (fun vs H Q E h => ?_) (fun A outer s H vs Q E hr h => ?_)
  · obtain ⟨a, ns, rfl, _⟩ := h
    rfl
  · obtain ⟨sa, ns, rfl, ha, hl, qq⟩ := h
    have nd := scLaw.nd
    have hr2 : Room 2 _ := hr.mono (by decide)
    have hr11 : Room 11 _ := hr.mono (by decide)
    have T := B.blt
    refine ⟨_, PSs.nox ((pss_cons (ps_for PassesOwn.never rfl (pi_list (pe_cal B.rounds hr2 pass0 (pa_cons (pv 0) (pa_cons pe_int pa_nil)))) (pg_name (i := 1) nd rfl (Or.inl rfl))
   (pss_cons (ps_asg (pe_tup (pa_cons (pe_op op_sub (pe_cal B.roll hr2 pass0 (pa_cons (pv 1) (pa_cons pe_int pa_nil))) pe_int) (pa_cons (pe_op op_sub (pe_cal B.roll hr2 pass0 (pa_cons (pv 1) (pa_cons pe_int pa_nil))) pe_int) (pa_cons (pe_op op_add pe_int (pe_cal B.roll hr2 pass0 (pa_cons (pv 1) (pa_cons pe_int pa_nil)))) pa_nil)))) (pg_tup rfl (pgs_cons (pg_name (i := 2) nd rfl (Or.inl rfl)) (pgs_cons (pg_name (i := 3) nd rfl (Or.inl rfl)) (pgs_cons (pg_name (i := 4) nd rfl (Or.inr rfl)) pgs_nil)))))
    (pss_cons (ps_set (i := 5) nd rfl (Or.inr rfl) (pe_tup (pa_cons (pe_tup (pa_cons pe_int (pa_cons (pe_tup (pa_cons pe_int (pa_cons pe_int pa_nil))) pa_nil))) pa_nil)))
    (pss_cons (ps_if (pt_cmpR (op_neD hr.units) (pe_tup (pa_cons (pv 2) (pa_cons (pv 3) pa_nil))) (pe_tup (pa_cons pe_int (pa_cons pe_int pa_nil))) (nomark _)) (pss_cons (ps_set (i := 6) nd rfl (Or.inl rfl) (pe_tup (pa_cons (pe_tup (pa_cons (pe_tup (pa_cons (pe_tup (pa_cons (pv 3) pa_nil)) (pa_cons (pv 5) pa_nil))) (pa_cons (pe_tup (pa_cons (pe_tup (pa_cons (pe_op op_add (pv 2) (pv 3)) pa_nil)) (pa_cons (pv 5) pa_nil))) pa_nil))) pa_nil)))
    (pss_one (ps_if (pt_cmpR (op_neD hr.units) (pe_cal B.form hr11 passN (pa_cons (pe_tup (pa_cons (pe_tup (pa_cons pe_str (pa_cons (pv 2) (pa_cons (pv 3) pa_nil)))) pa_nil)) pa_nil)) (pe_tup (pa_cons pe_int (pa_cons (pe_tup (pa_cons (pe_tup (pa_cons (pe_tup (pa_cons pe_int (pa_cons pe_int pa_nil))) pa_nil)) pa_nil)) (pa_cons (pe_tup (pa_cons (pe_tup (pa_cons (pe_tup pa_nil) (pa_cons pe_int pa_nil))) pa_nil)) (pa_cons (pv 6) pa_nil))))) (nomark _)) (pss_one (ps_ret pe_bl)) pss_nil))) pss_nil)
    (pss_cons (ps_set (i := 6) nd rfl (Or.inl rfl) (pe_tup (pa_cons (pe_tup (pa_cons (pe_tup (pa_cons (pe_tup (pa_cons pe_int pa_nil)) (pa_cons (pv 5) pa_nil))) (pa_cons (pe_tup (pa_cons (pe_tup (pa_cons pe_int pa_nil)) (pa_cons (pe_tup (pa_cons (pe_tup (pa_cons pe_int (pa_cons (pe_tup (pa_cons pe_int (pa_cons pe_int pa_nil))) pa_nil))) pa_nil)) pa_nil))) pa_nil))) (pa_cons (pe_tup (pa_cons (pe_tup (pa_cons (pe_tup (pa_cons (pe_un un_neg pe_int) pa_nil)) (pa_cons (pv 5) pa_nil))) (pa_cons (pe_tup (pa_cons (pe_tup (pa_cons pe_int pa_nil)) (pa_cons (pe_tup (pa_cons (pe_tup (pa_cons pe_int (pa_cons (pe_tup (pa_cons pe_int (pa_cons pe_int pa_nil))) pa_nil))) pa_nil)) pa_nil))) pa_nil))) pa_nil))))
    (pss_cons (ps_if (pt_cmpR (op_neD hr.units) (pe_cal B.form hr11 passN (pa_cons (pe_tup (pa_cons (pe_tup (pa_cons pe_str pa_nil)) pa_nil)) pa_nil)) (pe_tup (pa_cons pe_int (pa_cons (pe_tup (pa_cons (pe_tup (pa_cons (pe_tup (pa_cons pe_int (pa_cons pe_int pa_nil))) pa_nil)) pa_nil)) (pa_cons (pe_tup (pa_cons (pe_tup (pa_cons (pe_tup pa_nil) (pa_cons pe_int pa_nil))) (pa_cons (pe_tup (pa_cons (pe_tup (pa_cons pe_int pa_nil)) (pa_cons pe_int pa_nil))) pa_nil))) (pa_cons (pv 6) pa_nil))))) (nomark _)) (pss_one (ps_ret pe_bl)) pss_nil)
    (pss_cons (ps_set (i := 7) nd rfl (Or.inl rfl) (pe_tup (pa_cons (pe_tup (pa_cons pe_int (pa_cons (pe_tup (pa_cons pe_int (pa_cons pe_int pa_nil))) pa_nil))) pa_nil)))
    (pss_cons (ps_set (i := 6) nd rfl (Or.inl rfl) (pe_tup (pa_cons (pe_tup (pa_cons (pe_tup (pa_cons (pe_tup (pa_cons pe_int pa_nil)) (pa_cons (pv 7) pa_nil))) (pa_cons (pe_tup (pa_cons (pe_tup (pa_cons pe_int pa_nil)) (pa_cons (pv 7) pa_nil))) pa_nil))) (pa_cons (pe_op op_repN (pe_tup (pa_cons (pe_tup (pa_cons (pe_tup (pa_cons pe_int pa_nil)) (pa_cons (pe_tup (pa_cons (pe_tup (pa_cons pe_int (pa_cons (pe_tup (pa_cons (pe_un un_neg pe_int) (pa_cons pe_int pa_nil))) pa_nil))) (pa_cons (pe_tup (pa_cons pe_int (pa_cons (pe_tup (pa_cons pe_int (pa_cons pe_int pa_nil))) pa_nil))) pa_nil))) pa_nil))) pa_nil)) pe_int) pa_nil))))
    (pss_cons (ps_if (pt_cmpR (op_neD hr.units) (pe_cal B.form hr11 passN (pa_cons (pe_tup (pa_cons (pe_tup (pa_cons pe_str pa_nil)) pa_nil)) pa_nil)) (pe_tup (pa_cons pe_int (pa_cons (pe_tup (pa_cons (pe_tup (pa_cons (pe_tup (pa_cons pe_int (pa_cons pe_int pa_nil))) pa_nil)) pa_nil)) (pa_cons (pe_tup (pa_cons (pe_tup (pa_cons (pe_tup pa_nil) (pa_cons pe_int pa_nil))) (pa_cons (pe_tup (pa_cons (pe_tup (pa_cons pe_int pa_nil)) (pa_cons pe_int pa_nil))) pa_nil))) (pa_cons (pv 6) pa_nil))))) (nomark _)) (pss_one (ps_ret pe_bl)) pss_nil)
    (pss_cons (ps_set (i := 6) nd rfl (Or.inl rfl) (pe_tup (pa_cons (pe_tup (pa_cons (pe_tup (pa_cons (pe_tup (pa_cons pe_int (pa_cons pe_int pa_nil))) (pa_cons (pv 5) pa_nil))) (pa_cons (pe_tup (pa_cons (pe_tup (pa_cons pe_int (pa_cons pe_int pa_nil))) (pa_cons (pv 5) pa_nil))) pa_nil))) pa_nil)))
    (pss_cons (ps_if (pt_cmpR (op_neD hr.units) (pe_cal B.form hr11 passN (pa_cons (pe_tup (pa_cons (pe_tup (pa_cons pe_str pa_nil)) pa_nil)) pa_nil)) (pe_tup (pa_cons pe_int (pa_cons (pe_tup (pa_cons (pe_tup (pa_cons (pe_tup (pa_cons pe_int (pa_cons pe_int pa_nil))) pa_nil)) pa_nil)) (pa_cons (pe_tup (pa_cons (pe_tup (pa_cons (pe_tup pa_nil) (pa_cons pe_int pa_nil))) pa_nil)) (pa_cons (pv 6) pa_nil))))) (nomark _)) (pss_one (ps_ret pe_bl)) pss_nil)
    (pss_cons (ps_set (i := 8) nd rfl (Or.inr rfl) (pe_cal B.roll hr2 pass0 (pa_cons (pv 1) (pa_cons (pv 4) pa_nil))))
    (pss_cons (ps_set (i := 9) nd rfl (Or.inl rfl) (pe_tup (pa_cons (pe_callTy call_tuple_of (by rfl) T.tuple (by decide +kernel) (pa_cons (pe_lc (own := [("_law_x", 14)]) (g := gName 14) (tt := tYes) (by rfl) nd (pi_range1 (by rfl) T.range (pa_cons (pv 4) pa_nil)) (blkOk_by (own := [("_law_x", 14)]) (N := NL) (sc := defScope sLaw) (by decide +kernel)) (fun _ _ _ _ _ => pg_name (i := 14) nd rfl (Or.inl rfl))
      (fun _ _ _ _ _ => pts_nil) (fun _ _ _ _ _ => (pe_tup (pa_cons (pe_callTy call_int1 (by rfl) T.int (by decide +kernel) (pa_cons (pe_cmpR op_eq (pv 14) (pv 8) (nomark _)) pa_nil)) (pa_cons pe_int pa_nil))))) pa_nil)) pa_nil)))
    (pss_cons (ps_set (i := 6) nd rfl (Or.inl rfl) (pe_callTy call_tuple_of (by rfl) T.tuple (by decide +kernel) (pa_cons (pe_lc (own := [("_law_x", 14)]) (g := gName 14) (tt := tYes) (by rfl) nd (pi_range1 (by rfl) T.range (pa_cons (pe_op op_mul pe_int (pv 4)) pa_nil)) (blkOk_by (own := [("_law_x", 14)]) (N := NL) (sc := defScope sLaw) (by decide +kernel)) (fun _ _ _ _ _ => pg_name (i := 14) nd rfl (Or.inl rfl))
      (fun _ _ _ _ _ => pts_nil) (fun _ _ _ _ _ => (pe_tup (pa_cons (pe_ifExp (pt_cmpR op_eq (pe_op op_mod (pv 14) (pv 4)) (pv 8) (nomark _)) (pe_tup (pa_cons (pv 14) pa_nil)) (pe_tup pa_nil)) (pa_cons (pv 5) pa_nil))))) pa_nil)))
    (pss_cons (ps_if (pt_cmpR (op_neD hr.units) (pe_cal B.form hr11 passN (pa_cons (pe_tup (pa_cons (pe_tup (pa_cons pe_str (pa_cons (pv 4) (pa_cons (pv 8) pa_nil)))) pa_nil)) pa_nil)) (pe_tup (pa_cons (pv 4) (pa_cons (pv 9) (pa_cons (pe_tup (pa_cons (pe_tup (pa_cons (pe_tup pa_nil) (pa_cons pe_int pa_nil))) pa_nil)) (pa_cons (pe_tup (pa_cons (pv 6) pa_nil)) pa_nil))))) (nomark _)) (pss_one (ps_ret pe_bl)) pss_nil)
    (pss_cons (ps_set (i := 9) nd rfl (Or.inl rfl) (pe_callTy call_tuple_of (by rfl) T.tuple (by decide +kernel) (pa_cons (pe_lc (own := [("_law_at", 12)]) (g := gName 12) (tt := tYes) (by rfl) nd (pi_range1 (by rfl) T.range (pa_cons (pv 4) pa_nil)) (blkOk_by (own := [("_law_at", 12)]) (N := NL) (sc := defScope sLaw) (by decide +kernel)) (fun _ _ _ _ _ => pg_name (i := 12) nd rfl (Or.inl rfl))
      (fun _ _ _ _ _ => pts_nil) (fun _ _ _ _ _ => (pe_tup (pa_cons (pe_tup (pa_cons (pe_callTy call_int1 (by rfl) T.int (by decide +kernel) (pa_cons (pe_cmpR op_eq (pv 12) (pv 8) (nomark _)) pa_nil)) (pa_cons (pe_op op_mod (pe_op op_add (pv 12) pe_int) (pv 4)) pa_nil))) pa_nil)))) pa_nil)))
    (pss_cons (ps_set (i := 10) nd rfl (Or.inl rfl) (pe_callTy call_tuple_of (by rfl) T.tuple (by decide +kernel) (pa_cons (pe_lc (own := [("_law_at", 12)]) (g := gName 12) (tt := tYes) (te := tTup (tCons (tOp (rRepN K) (tTup (tCons (tC (.int 0)) tNil)) (tVar 12)) (tCons (tVar 12) tNil))) (by rfl) nd (pi_range1 (by rfl) T.range (pa_cons (pv 4) pa_nil)) (blkOk_by (own := [("_law_at", 12)]) (N := NL) (sc := defScope sLaw) (by decide +kernel)) (fun _ _ _ _ _ => pg_name (i := 12) nd rfl (Or.inl rfl))
      (fun _ _ _ _ _ => pts_nil) (fun _ _ _ _ _ => (pe_tup (pa_cons (pe_op op_repN (pe_tup (pa_cons pe_int pa_nil)) (pv 12)) (pa_cons (pv 12) pa_nil))))) pa_nil)))
    (pss_cons (ps_set (i := 11) nd rfl (Or.inl rfl) (pe_lst pa_nil))
    (pss_cons (ps_for PassesOwn.never rfl (pi_range1 (by rfl) T.range (pa_cons (pv 4) pa_nil)) (pg_name (i := 12) nd rfl (Or.inr rfl))
   (pss_cons (ps_set (i := 13) nd rfl (Or.inr rfl) (pe_tup (pa_cons (pe_tup (pa_cons (pe_op op_mod (pe_op op_add (pv 12) pe_int) (pv 4)) (pa_cons (pe_tup (pa_cons pe_int (pa_cons pe_int pa_nil))) pa_nil))) pa_nil)))
    (pss_one (ps_expr (pe_bm PySem.F.plainAttrs_list PySem.F.slot_list_append PySem.F.type_list_append mt_append (pv 11) (pa_cons (pe_callTy call_tuple_of (by rfl) T.tuple (by decide +kernel) (pa_cons (pe_lc (own := [("_law_x", 14)]) (g := gName 14) (tt := tYes) (by rfl) nd (pi_range1 (by rfl) T.range (pa_cons pe_int pa_nil)) (blkOk_by (own := [("_law_x", 14)]) (N := NL) (sc := defScope sLaw) (by decide +kernel)) (fun _ _ _ _ _ => pg_name (i := 14) nd rfl (Or.inl rfl))
      (fun _ _ _ _ _ => pts_nil) (fun _ _ _ _ _ => (pe_tup (pa_cons (pe_ifExp (pt_cmpR op_eq (pv 12) (pv 8) (nomark _)) (pe_tup (pa_cons (pv 14) pa_nil)) (pe_tup pa_nil)) (pa_cons (pv 13) pa_nil))))) pa_nil)) pa_nil))))))
    (pss_one (ps_if (pt_cmpR (op_neD hr.units) (pe_cal B.form hr11 passN (pa_cons (pe_tup (pa_cons (pe_tup (pa_cons pe_str (pa_cons (pv 4) (pa_cons (pv 8) pa_nil)))) pa_nil)) pa_nil)) (pe_tup (pa_cons pe_int (pa_cons (pv 9) (pa_cons (pv 10) (pa_cons (pe_callTy call_tuple_of (by rfl) T.tuple (by decide +kernel) (pa_cons (pv 11) pa_nil)) pa_nil))))) (nomark _)) (pss_one (ps_ret pe_bl)) pss_nil)))))))))))))))))))))
    (pss_one (ps_ret pe_bl)))), ?_⟩
    refine ⟨_, rfl, sa, ns, rfl, ha, hl, fun t ds H1 s1 hds ht hall nt => ⟨t, rfl, ⟨_, SqL.of ht⟩, ?_⟩⟩
    have r1 : Rt [] t ds H1 := ⟨ht, fun c hc => (hall c hc).1, fun p hp => by cases hp⟩
    refine for_list (K := K) (a := t) (xs := ds.map V.ref) (fun i σ H2 => (∃ v1 v2 v3 v4 v5 v6 v7 v8 v9 v10 v11 v12 v13 v14 : Option V, σ = [some (.ref sa), v1, v2, v3, v4, v5, v6, v7, v8, v9, v10, v11, v12, v13, v14]) ∧ Rt [] t ds H2)
      ⟨⟨_, _, _, _, _, _, _, _, _, _, _, _, _, _, rfl⟩, r1⟩ (fun i σ H2 _ ⟨_, r⟩ => SqL.of r.tl) ?_ ?_
    · clear r1 hall nt s1 ht ha hds H1
      rintro i x σ H2 hx ⟨⟨v1, v2, v3, v4, v5, v6, v7, v8, v9, v10, v11, v12, v13, v14, rfl⟩, r2⟩
      obtain ⟨d, hd, rfl⟩ : ∃ d, d ∈ ds ∧ x = .ref d := by
        obtain ⟨d, hd, e⟩ := List.mem_map.mp (List.mem_of_getElem? hx)
        exact ⟨d, hd, e.symm⟩
      have d2 := r2.rd hd
      clear r2
      refine ⟨_, rfl, d, 7, rfl, d2.d, by decide, by decide, fun ra H3 a0 a1 dd s => ?_⟩
      replace d2 := d2.roll s dd
      clear dd s
      refine ⟨_, _, rfl, rfl, _, rfl, d, 9, rfl, d2.d, by decide, by decide, fun rb H4 b0 b1 dd s => ?_⟩
      replace d2 := d2.roll s dd
      clear dd s
      refine ⟨_, _, rfl, rfl, _, rfl, d, 2, rfl, d2.d, by decide, by decide, fun rk H5 k0 k1 dd s => ?_⟩
      replace d2 := d2.roll s dd
      clear dd s
      refine ⟨_, _, rfl, rfl, (by show 3 ≤ sizeLine; decide), fun q4 n4 => ⟨q4, _, rfl, SqT.of upd_same, rfl, _, _, rfl, _, _, rfl, _, _, rfl, rfl, ?_⟩⟩
      replace d2 := d2.same (same_upd (o := .tup [V.int (ra - 3), .int (rb - 4), .int (2 + rk)]) (Same.refl _) n4)
      try dsimp only [tNext]
      generalize upd H5 q4 (.tup [V.int (ra - 3), .int (rb - 4), .int (2 + rk)]) = H6 at d2 ⊢
      clear n4 q4
      obtain ⟨a, ea⟩ : ∃ a, a = ra - 3 := ⟨_, rfl⟩
      obtain ⟨b, eb⟩ : ∃ b, b = rb - 4 := ⟨_, rfl⟩
      obtain ⟨m, em⟩ : ∃ m, m = 2 + rk := ⟨_, rfl⟩
      rw [← ea, ← eb, ← em]
      have g1 : -3 ≤ a := by omega
      have g2 : a ≤ 3 := by omega
      have g3 : -4 ≤ b := by omega
      have g4 : b ≤ 4 := by omega
      have g5 : 2 ≤ m := by omega
      have g6 : m < 4 := by omega
      clear ea eb em a0 a1 b0 b1 k0 k1
      -- _law_self_mix
      try dsimp only [tNext]
      refine gv_set (K := K) (p := mix0P) (by repeat' (first | exact gvs_nil | exact gv_int | exact gv_neg | exact gv_num rfl | exact gv_var rfl (by assumption) | exact gv_add rfl rfl | refine gvs_cons ?_ ?_ | refine gv_tup ?_ ?_ | refine gv_two ?_ | exact Nat.le_of_ble_eq_true rfl)) fun x5 H7 s7 w5 => ?_
      replace d2 := d2.same s7
      clear s7
      try dsimp only [tNext]
      refine seq_j (fun σ2 H8 => (∃ u6, σ2 = [some (.ref sa), some (.ref d), some (.int a), some (.int b), some (.int m), some x5, u6, v7, v8, v9, v10, v11, v12, v13, v14]) ∧ Rd [] t d ds H8 ∧ PAt K H8 x5 mix0P) ?_ fun go => ?_
      rotate_left
      · refine pair_if (K := K) rfl rfl (fun _ H8 s8 => go _ _ ⟨⟨_, rfl⟩, d2.same s8, w5.wk (Wk.of s8)⟩) fun h0 H8 s8 => ?_
        replace d2 := d2.same s8
        replace w5 := w5.wk (Wk.of s8)
        clear s8
        try dsimp only [tNext]
        refine gv_set (K := K) (p := .tup [.tup [.tup [.tup [.int b], mix0P], .tup [.tup [.int (a + b)], mix0P]]]) (by repeat' (first | exact gvs_nil | exact gv_int | exact gv_neg | exact gv_num rfl | exact gv_var rfl (by assumption) | exact gv_add rfl rfl | refine gvs_cons ?_ ?_ | refine gv_tup ?_ ?_ | refine gv_two ?_ | exact Nat.le_of_ble_eq_true rfl)) fun x6 H9 s9 w6 => ?_
        replace d2 := d2.same s9
        replace w5 := w5.wk (Wk.of s9)
        clear s9
        try dsimp only [tNext]
        refine form_ne (K := K) (.line a b) (fun H1 Q q => ⟨_, rfl, _, rfl, q⟩) ⟨g1, g2, by omega, by omega⟩ (okc_line g1 g2 g3 g4) (line_is g1 g2 g3 g4 h0) ?_ rfl fun H10 s10 => ?_
        rotate_left
        · exact go _ _ ⟨⟨_, rfl⟩, d2.same s10, w5.wk (Wk.of s10)⟩
        show Gv K _ _ _ (.tup [.int 1, .tup [.tup [.tup [.int 1, .int 0]]], .tup [.tup [.tup [], .int 0]], _])
        repeat' (first | exact gvs_nil | exact gv_int | exact gv_neg | exact gv_num rfl | exact gv_var rfl (by assumption) | exact gv_add rfl rfl | refine gvs_cons ?_ ?_ | refine gv_tup ?_ ?_ | refine gv_two ?_ | exact Nat.le_of_ble_eq_true rfl)
      clear w5 d2
      rintro σ2 H8 ⟨⟨u6, rfl⟩, d2, w5⟩
      -- gaps
      try dsimp only [tNext]
      refine gv_set (K := K) (p := .tup [.tup [.tup [.tup [.int 0], mix0P], .tup [.tup [.int 1], .tup [.tup [.int 1, .tup [.int 1, .int 1]]]]], .tup [.tup [.tup [.int (-1)], mix0P], .tup [.tup [.int 0], .tup [.tup [.int 1, .tup [.int 1, .int 1]]]]]]) (by repeat' (first | exact gvs_nil | exact gv_int | exact gv_neg | exact gv_num rfl | exact gv_var rfl (by assumption) | exact gv_add rfl rfl | refine gvs_cons ?_ ?_ | refine gv_tup ?_ ?_ | refine gv_two ?_ | exact Nat.le_of_ble_eq_true rfl)) fun x6 H9 s9 w6 => ?_
      replace d2 := d2.same s9
      replace w5 := w5.wk (Wk.of s9)
      clear s9
      try dsimp only [tNext]
      refine form_ne (K := K) .gaps (fun H1 Q q => q) True.intro (by decide +kernel) gaps_is ?_ rfl fun H10 s10 => ?_
      · show Gv K _ _ _ (.tup [.int 1, .tup [.tup [.tup [.int 1, .int 0]]], .tup [.tup [.tup [], .int 0], .tup [.tup [.int 1], .int 0]], _])
        repeat' (first | exact gvs_nil | exact gv_int | exact gv_neg | exact gv_num rfl | exact gv_var rfl (by assumption) | exact gv_add rfl rfl | refine gvs_cons ?_ ?_ | refine gv_tup ?_ ?_ | refine gv_two ?_ | exact Nat.le_of_ble_eq_true rfl)
      replace d2 := d2.same s10
      replace w5 := w5.wk (Wk.of s10)
      clear s10 w6
      -- count
      try dsimp only [tNext]
      refine gv_set (K := K) (p := .tup [.tup [.int 1, .tup [.int 1, .int 1]]]) (by repeat' (first | exact gvs_nil | exact gv_int | exact gv_neg | exact gv_num rfl | exact gv_var rfl (by assumption) | exact gv_add rfl rfl | refine gvs_cons ?_ ?_ | refine gv_tup ?_ ?_ | refine gv_two ?_ | exact Nat.le_of_ble_eq_true rfl)) fun x7 H11 s11 w7 => ?_
      replace d2 := d2.same s11
      replace w5 := w5.wk (Wk.of s11)
      clear s11
      try dsimp only [tNext]
      refine gv_set (K := K) (p := .tup [.tup [.tup [.tup [.int 1], .tup [.tup [.int 1, .tup [.int 1, .int 1]]]], .tup [.tup [.int 1], .tup [.tup [.int 1, .tup [.int 1, .int 1]]]]], .tup [.tup [.tup [.int 2], .tup [.tup [.int 0, .tup [.int (-1), .int 1]], .tup [.int 1, .tup [.int 2, .int 1]]]], .tup [.tup [.int 2], .tup [.tup [.int 0, .tup [.int (-1), .int 1]], .tup [.int 1, .tup [.int 2, .int 1]]]]]]) (by repeat' (first | exact gvs_nil | exact gv_int | exact gv_neg | exact gv_num rfl | exact gv_var rfl (by assumption) | exact gv_add rfl rfl | refine gvs_cons ?_ ?_ | refine gv_tup ?_ ?_ | refine gv_two ?_ | exact Nat.le_of_ble_eq_true rfl)) fun y6 H12 s12 w6 => ?_
      replace d2 := d2.same s12
      replace w5 := w5.wk (Wk.of s12)
      clear s12 w7
      try dsimp only [tNext]
      refine form_ne (K := K) .count (fun H1 Q q => q) True.intro (by decide +kernel) count_is ?_ rfl fun H13 s13 => ?_
      · show Gv K _ _ _ (.tup [.int 1, .tup [.tup [.tup [.int 1, .int 0]]], .tup [.tup [.tup [], .int 0], .tup [.tup [.int 0], .int 0]], _])
        repeat' (first | exact gvs_nil | exact gv_int | exact gv_neg | exact gv_num rfl | exact gv_var rfl (by assumption) | exact gv_add rfl rfl | refine gvs_cons ?_ ?_ | refine gv_tup ?_ ?_ | refine gv_two ?_ | exact Nat.le_of_ble_eq_true rfl)
      replace d2 := d2.same s13
      replace w5 := w5.wk (Wk.of s13)
      clear s13 w6
      -- twice
      try dsimp only [tNext]
      refine gv_set (K := K) (p := .tup [.tup [.tup [.tup [.int 0, .int 0], mix0P], .tup [.tup [.int 1, .int 1], mix0P]]]) (by repeat' (first | exact gvs_nil | exact gv_int | exact gv_neg | exact gv_num rfl | exact gv_var rfl (by assumption) | exact gv_add rfl rfl | refine gvs_cons ?_ ?_ | refine gv_tup ?_ ?_ | refine gv_two ?_ | exact Nat.le_of_ble_eq_true rfl)) fun z6 H14 s14 w6 => ?_
      replace d2 := d2.same s14
      replace w5 := w5.wk (Wk.of s14)
      clear s14
      try dsimp only [tNext]
      refine form_ne (K := K) .twice (fun H1 Q q => q) True.intro (by decide +kernel) twice_is ?_ rfl fun H15 s15 => ?_
      · show Gv K _ _ _ (.tup [.int 1, .tup [.tup [.tup [.int 2, .int 0]]], .tup [.tup [.tup [], .int 0]], _])
        repeat' (first | exact gvs_nil | exact gv_int | exact gv_neg | exact gv_num rfl | exact gv_var rfl (by assumption) | exact gv_add rfl rfl | refine gvs_cons ?_ ?_ | refine gv_tup ?_ ?_ | refine gv_two ?_ | exact Nat.le_of_ble_eq_true rfl)
      replace d2 := d2.same s15
      replace w5 := w5.wk (Wk.of s15)
      clear s15 w6
      -- left
      refine ⟨_, rfl, _, rfl, d, m, rfl, d2.d, by omega, by omega, fun r H16 r0 r1 dd s => ?_⟩
      replace w5 := w5.wk (Wk.off (d := d) (fun b o n h => s b o h n) d2.d.choose_spec.choose_spec (fun z => z))
      replace d2 := d2.roll s dd
      clear dd s
      -- keep
      dsimp only [gName]
      refine gv_set (K := K) (p := .tup [.tup ((upto m).map fun x => .tup [.int (if x = r then 1 else 0), .int 0])])
        (gv_tup (gvs_cons (gv_comp _ (fun H1 Q q => ⟨_, rfl, q⟩) (by omega) (by omega) (fun _ => rfl) (fun i i0 i1 => gv_tup (gvs_cons (gv_n (gn_eq (gn_v rfl) (gn_v rfl))) (gvs_cons gv_int gvs_nil)) (Nat.le_of_ble_eq_true rfl))) gvs_nil) (Nat.le_of_ble_eq_true rfl)) fun x9 H17 s17 w9 => ?_
      replace d2 := d2.same s17
      replace w5 := w5.wk (Wk.of s17)
      clear s17
      try dsimp only [tNext]
      refine gv_set (K := K) (p := .tup ((upto (2 * m)).map fun x => .tup [if x % m = r then .tup [.int x] else .tup [], mix0P]))
        (gv_comp _ (fun H1 Q q => gn_mul2 (ta := tC (.int 2)) (tb := tVar 4) gn_c (gn_v rfl) _ _ q) (by omega) (by omega) (fun _ => rfl) (fun i i0 i1 => gv_tup (gvs_cons (gv_if (gn_mod (gn_v rfl) (gn_v rfl) (by omega)) (gn_v rfl) (by repeat' (first | exact gvs_nil | exact gv_int | exact gv_neg | exact gv_num rfl | exact gv_var rfl (by assumption) | exact gv_add rfl rfl | refine gvs_cons ?_ ?_ | refine gv_tup ?_ ?_ | refine gv_two ?_ | exact Nat.le_of_ble_eq_true rfl)) (by repeat' (first | exact gvs_nil | exact gv_int | exact gv_neg | exact gv_num rfl | exact gv_var rfl (by assumption) | exact gv_add rfl rfl | refine gvs_cons ?_ ?_ | refine gv_tup ?_ ?_ | refine gv_two ?_ | exact Nat.le_of_ble_eq_true rfl))) (gvs_cons (gv_var rfl w5) gvs_nil)) (Nat.le_of_ble_eq_true rfl))) fun u6' H18 s18 w6 => ?_
      replace d2 := d2.same s18
      replace w5 := w5.wk (Wk.of s18)
      replace w9 := w9.wk (Wk.of s18)
      clear s18
      try dsimp only [tNext]
      refine form_ne (K := K) (.keep m r) (fun H1 Q q => ⟨_, rfl, _, rfl, q⟩) ⟨by unfold two3; omega, r0, r1⟩ (okc_keep g5 g6 r0 r1).1 (keep_is g5 g6 r0 r1) ?_ (sh_is g5 g6 r0 r1).1 fun H19 s19 => ?_
      · rw [keep_p]
        repeat' (first | exact gvs_nil | exact gv_int | exact gv_neg | exact gv_num rfl | exact gv_var rfl (by assumption) | exact gv_add rfl rfl | refine gvs_cons ?_ ?_ | refine gv_tup ?_ ?_ | refine gv_two ?_ | exact Nat.le_of_ble_eq_true rfl)
      replace d2 := d2.same s19
      clear s19 w6 w9 w5
      -- every
      try dsimp only [tNext]
      refine gv_set (K := K) (p := .tup ((upto m).map fun x => .tup [.tup [.int (if x = r then 1 else 0), .int ((x + 1) % m)]]))
        (gv_comp _ (fun H1 Q q => ⟨_, rfl, q⟩) (by omega) (by omega) (fun _ => rfl) (fun i i0 i1 => gv_tup (gvs_cons (gv_tup (gvs_cons (gv_n (gn_eq (gn_v rfl) (gn_v rfl))) (gvs_cons (gv_n (gn_mod (gn_add (gn_v rfl) gn_c) (gn_v rfl) (by omega))) gvs_nil)) (Nat.le_of_ble_eq_true rfl)) gvs_nil) (Nat.le_of_ble_eq_true rfl))) fun y9 H20 s20 w9 => ?_
      replace d2 := d2.same s20
      clear s20
      try dsimp only [tNext]
      refine gv_set (K := K) (p := .tup ((upto m).map fun x => .tup [.tup ((List.replicate x.toNat 0).map .int), .int x]))
        (gv_comp _ (fun H1 Q q => ⟨_, rfl, q⟩) (by omega) (by omega) (fun _ => rfl) (fun i i0 i1 => gv_tup (gvs_cons (gv_rep rfl i0 (by omega)) (gvs_cons (gv_n (gn_v rfl)) gvs_nil)) (Nat.le_of_ble_eq_true rfl))) fun y10 H21 s21 w10 => ?_
      replace d2 := d2.same s21
      replace w9 := w9.wk (Wk.of s21)
      clear s21
      try dsimp only [tNext]
      refine ⟨(by show 0 ≤ sizeLine; decide), fun e ne => ?_⟩
      obtain ⟨et, ed⟩ := rd_new d2 ne
      have se := same_upd (o := .lst []) (Same.refl H21) ne
      replace d2 := d2.same se
      replace w9 := w9.wk (Wk.of se)
      replace w10 := w10.wk (Wk.of se)
      have hnil : upd H21 e (.lst []) e = some (.lst []) := upd_same
      dsimp only [gName]
      generalize upd H21 e (.lst []) = H22 at d2 w9 w10 hnil ⊢
      clear se ne
      dsimp only [tSeq]
      refine ⟨_, rfl, m, rfl, by omega, by omega, ?_⟩
      refine for_it (walk_range (lo := 0) (n := m.toNat)) (fun i σ G => ∃ (y12 y13 : Option V) (us : List V), σ = [some (.ref sa), some (.ref d), some (.int a), some (.int b), some (.int m), some x5, some u6', some x7, some (.int r), some y9, some y10, some (.ref e), y12, y13, v14] ∧ Rd [] t d ds G ∧
          PAt K G y9 (.tup ((upto m).map fun x => .tup [.tup [.int (if x = r then 1 else 0), .int ((x + 1) % m)]])) ∧ PAt K G y10 (.tup ((upto m).map fun x => .tup [.tup ((List.replicate x.toNat 0).map .int), .int x])) ∧ G e = some (.lst us) ∧ Ls (PAt K) G us (((upto m).map (entP m r)).take i))
        ⟨v12, v13, [], rfl, d2, w9, w10, hnil, by rw [List.take_zero]; exact .nil⟩ (fun _ _ _ _ _ => True.intro) ?_ ?_
      · clear d2 w9 w10 hnil H22
        rintro i x σ G1 G2 hi ⟨y12, y13, us, rfl, dG, p9, p10, hus, hls⟩ ⟨rfl, rfl⟩
        show gName 12 (V.int (0 + (i : Int))) _ _ _
        rw [show (0 : Int) + (i : Int) = i by omega]
        dsimp only [gName, tSeq]
        refine gv_set (K := K) (p := .tup [.tup [.int (((i : Int) + 1) % m), .tup [.int 1, .int 1]]])
          (gv_tup (gvs_cons (gv_tup (gvs_cons (gv_n (gn_mod (gn_add (gn_v rfl) gn_c) (gn_v rfl) (by omega))) (gvs_cons (gv_tup (gvs_cons gv_int (gvs_cons gv_int gvs_nil)) (Nat.le_of_ble_eq_true rfl)) gvs_nil)) (Nat.le_of_ble_eq_true rfl)) gvs_nil) (Nat.le_of_ble_eq_true rfl)) fun x13 G3 s3 w13 => ?_
        replace dG := dG.same s3
        replace p9 := p9.wk (Wk.of s3)
        replace p10 := p10.wk (Wk.of s3)
        replace hus := s3 _ _ hus
        replace hls := hls.wk fst_PAt (Wk.of s3)
        clear s3
        try dsimp only [tNext]
        refine ⟨_, rfl, .inl ⟨rfl, _, SqL.of hus⟩, ?_⟩
        refine Gvs.use (K := K) (ps := [entP m r i]) (gvs_cons (gv_comp _ (fun H1 Q q => q) (by decide) (by decide) (fun _ => rfl) fun y j0 j1 => gv_tup (gvs_cons (gv_if (gn_v rfl) (gn_v rfl) (by repeat' (first | exact gvs_nil | exact gv_int | exact gv_neg | exact gv_num rfl | exact gv_var rfl (by assumption) | exact gv_add rfl rfl | refine gvs_cons ?_ ?_ | refine gv_tup ?_ ?_ | refine gv_two ?_ | exact Nat.le_of_ble_eq_true rfl)) (by repeat' (first | exact gvs_nil | exact gv_int | exact gv_neg | exact gv_num rfl | exact gv_var rfl (by assumption) | exact gv_add rfl rfl | refine gvs_cons ?_ ?_ | refine gv_tup ?_ ?_ | refine gv_two ?_ | exact Nat.le_of_ble_eq_true rfl))) (gvs_cons (gv_var rfl w13) gvs_nil)) (Nat.le_of_ble_eq_true rfl)) gvs_nil) fun xs G4 s4 hxs hl => ?_
        unfold PAts at hxs
        obtain ⟨v, ys, rfl, hv, hys⟩ := hxs
        unfold PAts at hys
        subst hys
        replace dG := dG.same s4
        replace p9 := p9.wk (Wk.of s4)
        replace p10 := p10.wk (Wk.of s4)
        replace hus := s4 _ _ hus
        replace hls := hls.wk fst_PAt (Wk.of s4)
        have wk : Wk G4 (upd G4 e (.lst (us ++ [v]))) := (Wk.refl G4).upd hus (fun z => z)
        refine ⟨e, us, v, rfl, rfl, hus, ?_, ?_⟩
        · have h4 : 4000 < sizeLine := by decide
          have := hls.len
          rw [List.length_take, List.length_map, upto_size] at this
          omega
        · refine ⟨_, _, us ++ [v], rfl, rd_upd dG et ed, p9.wk wk, p10.wk wk, upd_same, ?_⟩
          rw [List.take_add_one, List.getElem?_map, upto_at hi]
          exact (hls.wk fst_PAt wk).snoc (hv.wk wk)
      · rintro σ G ⟨y12, y13, us, rfl, dG, p9, p10, hus, hls⟩
        rw [List.take_of_length_le (by rw [List.length_map, upto_size]; exact Nat.le_refl _)] at hls
        dsimp only
        refine form_ne (K := K) (.every m r) (fun H1 Q q => ⟨_, rfl, _, rfl, q⟩) ⟨by unfold two3; omega, r0, r1⟩ (okc_keep g5 g6 r0 r1).2 (every_is g5 g6 r0 r1) ?_ (sh_is g5 g6 r0 r1).2 fun G5 s5 => ?_
        · rw [every_p]
          exact gv_tup (gvs_cons gv_int (gvs_cons (gv_var rfl p9) (gvs_cons (gv_var rfl p10) (gvs_cons (gv_tupof rfl hus (pats_ls hls)) gvs_nil)))) (Nat.le_of_ble_eq_true rfl)
        · exact ⟨⟨_, _, _, _, _, _, _, _, _, _, _, _, _, _, rfl⟩, (dG.same s5).rt⟩
    · intro σ H2 _
      exact qq H2
end
end FC
set_option Elab.async false
set_option linter.all false
set_option maxRecDepth 100000
set_option maxHeartbeats 1000000
namespace FC
open PySem PySem.Spec PyProof.Rows L2
/-! ### what the top leaves -/
def DefOk (K : PySem.W.Frag) (x : Str) (st : Stmt) : Prop := ∃ (f : Addr) (fd : FuncData), PySem.W.nsIn K mainGlobals x = some (some (.ref f)) ∧ Fun K x x st f fd
theorem defOk {K : PySem.W.Frag} {x : Str} {st : Stmt} {f : Addr} {oc : Value} {od an : Option Addr} {osl : Array (Option Value)} {kV doc pm cdv ct : Value} (a : PySem.W.nsIn K mainGlobals x = some (some (.ref f)))
    (l : K.lookup f = some ⟨oc, od, .func (PySem.W.fnOf x x (defArgs st) (defBody st) (defScope st) .none kV doc pm an cdv ct), osl⟩) (c : PySem.W.codeIn K cdv x = true) (k : PySem.W.keepIn K (.ref f) = true) : DefOk K x st := ⟨f, _, a, fun_mk l c k⟩
def ent (P : Params) (e : Str × Tok × Value) : DictEntry := ⟨PyData.keyHash P e.1, .str e.1 e.2.1, e.2.2⟩
def nsL (l : List (Str × Tok × Value)) (z : Str) : Option Value := (l.find? fun e => e.1 == z).map (·.2.2)
def All2 {β : Type} (R : β → Value → Prop) : List (Str × Tok × Value) → List (Str × β) → Prop
  | [], [] => True
  | e :: l, b :: t => e.1 = b.1 ∧ R b.2 e.2.2 ∧ All2 R l t
  | _, _ => False
theorem all2_find {β : Type} {R : β → Value → Prop} : ∀ {l : List (Str × Tok × Value)} {tb : List (Str × β)}, All2 R l tb → ∀ z, match tb.lookup z with
    | none => nsL l z = none
    | some b => ∃ v, nsL l z = some v ∧ R b v
  | [], [], _, z => rfl
  | e :: l, b :: t, ⟨h1, h2, h3⟩, z => by
    obtain ⟨x, k, v⟩ := e
    obtain ⟨y, b⟩ := b
    have h1 : x = y := h1
    subst h1
    by_cases hz : z = x
    · subst hz
      have e1 : nsL ((z, k, v) :: l) z = some v := by
        unfold nsL
        rw [List.find?_cons_of_pos (by simp)]
        rfl
      simp only [List.lookup, beq_self_eq_true]
      exact ⟨v, e1, h2⟩
    · have e1 : nsL ((x, k, v) :: l) z = nsL l z := by
        unfold nsL
        rw [List.find?_cons_of_neg (by simp; exact fun q => hz q.symm)]
      have e2 : (z == x) = false := beq_eq_false_iff_ne.mpr hz
      simp only [List.lookup, e2, e1]
      exact all2_find h3 z
section
variable {K : PySem.W.Frag} {w : World} {d : Addr} {n : Nat} {l : List (Str × Tok × Value)}
theorem keysLit_ents {P : Params} : ∀ (l : List (Str × Tok × Value)), PySem.W.KeysLit P (l.map (ent P))
  | [] => trivial
  | e :: r => ⟨⟨_, _, rfl, rfl⟩, keysLit_ents r⟩
theorem kd_ents (h : K.lookup d = some ⟨.type "dict", none, .dict (l.map (ent w.params)).toArray n, #[]⟩) (low : (d == sysModules) = false) : KDict K w d (l.map (ent w.params)).toArray n := ⟨h, keysLit_ents l, low⟩
theorem find_ents {P : Params} (z : Str) : ∀ (l : List (Str × Tok × Value)), (l.map (ent P)).find? (·.key.isStr z) = (l.find? fun e => e.1 == z).map (ent P)
  | [] => rfl
  | e :: r => by
    rw [List.map_cons, List.find?_cons, List.find?_cons]
    have e1 : (ent P e).key.isStr z = (e.1 == z) := rfl
    rw [e1]
    cases (e.1 == z) with
    | true => rfl
    | false => exact find_ents z r
theorem noRef_ents {P : Params} : ∀ (l : List (Str × Tok × Value)), (l.map (ent P)).any (·.refKey) = false
  | [] => rfl
  | e :: r => by
    rw [List.map_cons, List.any_cons, noRef_ents r]
    rfl
theorem ns_ents {o : Value} {od : Option Addr} {sl : Array (Option Value)} {P : Params} (h : K.lookup d = some ⟨o, od, .dict (l.map (ent P)).toArray n, sl⟩) (z : Str) : PySem.W.nsIn K d z = some (nsL l z) := by
  unfold PySem.W.nsIn
  rw [h]
  show (match ((l.map (ent P)).toArray.toList).find? (·.key.isStr z) with
    | some e => some (some e.val)
    | none => if ((l.map (ent P)).toArray.toList).any (·.refKey) then none else some none) = _
  rw [List.toList_toArray, find_ents, noRef_ents]
  unfold nsL
  cases l.find? (fun e => e.1 == z) <;> rfl
end
def TupV (K : PySem.W.Frag) (a : Addr) (xs : List V) : Prop := ∃ (o : Obj) (its : Array Value) (n : Nat), K.lookup a = some o ∧ o.cls = .type "tuple" ∧ o.data = .seq its n ∧ its.size ≤ sizeLine ∧ Vals xs its.toList
theorem TupV.sq {K : PySem.W.Frag} {a : Addr} {xs : List V} (h : TupV K a xs) : ∀ H, SqT K H a xs := fun H => .inr h
theorem tup0 {K : PySem.W.Frag} {a : Addr} {od : Option Addr} {n : Nat} {sl : Array (Option Value)} (l : K.lookup a = some ⟨.type "tuple", od, .seq #[] n, sl⟩)  : TupV K a [] := ⟨_, _, _, l, rfl, rfl, (by show 0 ≤ sizeLine; decide), .nil⟩
theorem tup1 {K : PySem.W.Frag} {a : Addr} {od : Option Addr} {n : Nat} {sl : Array (Option Value)} {x0 : V} {u0 : Value} (l : K.lookup a = some ⟨.type "tuple", od, .seq #[u0] n, sl⟩) (r0 : RelV x0 u0) : TupV K a [x0] := ⟨_, _, _, l, rfl, rfl, (by show 1 ≤ sizeLine; decide), (.cons r0 .nil)⟩
theorem tup2 {K : PySem.W.Frag} {a : Addr} {od : Option Addr} {n : Nat} {sl : Array (Option Value)} {x0 x1 : V} {u0 u1 : Value} (l : K.lookup a = some ⟨.type "tuple", od, .seq #[u0, u1] n, sl⟩) (r0 : RelV x0 u0) (r1 : RelV x1 u1) : TupV K a [x0, x1] := ⟨_, _, _, l, rfl, rfl, (by show 2 ≤ sizeLine; decide), (.cons r0 (.cons r1 .nil))⟩
theorem tup3 {K : PySem.W.Frag} {a : Addr} {od : Option Addr} {n : Nat} {sl : Array (Option Value)} {x0 x1 x2 : V} {u0 u1 u2 : Value} (l : K.lookup a = some ⟨.type "tuple", od, .seq #[u0, u1, u2] n, sl⟩) (r0 : RelV x0 u0) (r1 : RelV x1 u1) (r2 : RelV x2 u2) : TupV K a [x0, x1, x2] := ⟨_, _, _, l, rfl, rfl, (by show 3 ≤ sizeLine; decide), (.cons r0 (.cons r1 (.cons r2 .nil)))⟩
theorem tup4 {K : PySem.W.Frag} {a : Addr} {od : Option Addr} {n : Nat} {sl : Array (Option Value)} {x0 x1 x2 x3 : V} {u0 u1 u2 u3 : Value} (l : K.lookup a = some ⟨.type "tuple", od, .seq #[u0, u1, u2, u3] n, sl⟩) (r0 : RelV x0 u0) (r1 : RelV x1 u1) (r2 : RelV x2 u2) (r3 : RelV x3 u3) : TupV K a [x0, x1, x2, x3] := ⟨_, _, _, l, rfl, rfl, (by show 4 ≤ sizeLine; decide), (.cons r0 (.cons r1 (.cons r2 (.cons r3 .nil))))⟩
theorem tup5 {K : PySem.W.Frag} {a : Addr} {od : Option Addr} {n : Nat} {sl : Array (Option Value)} {x0 x1 x2 x3 x4 : V} {u0 u1 u2 u3 u4 : Value} (l : K.lookup a = some ⟨.type "tuple", od, .seq #[u0, u1, u2, u3, u4] n, sl⟩) (r0 : RelV x0 u0) (r1 : RelV x1 u1) (r2 : RelV x2 u2) (r3 : RelV x3 u3) (r4 : RelV x4 u4) : TupV K a [x0, x1, x2, x3, x4] := ⟨_, _, _, l, rfl, rfl, (by show 5 ≤ sizeLine; decide), (.cons r0 (.cons r1 (.cons r2 (.cons r3 (.cons r4 .nil)))))⟩
def LetOk (K : PySem.W.Frag) (w : World) : Prop := ∃ d, PySem.W.nsIn K mainGlobals "LETTERS" = some (some (.ref d)) ∧ LetT K w d
theorem letOk {K : PySem.W.Frag} {w : World} {d : Addr} {n : Nat} {t0 t1 t2 t3 t4 t5 t6 t7 t8 t9 : Tok} {a0 a1 a2 a3 a4 a5 a6 a7 a8 a9 : Addr} (g : PySem.W.nsIn K mainGlobals "LETTERS" = some (some (.ref d)))
    (h : K.lookup d = some ⟨.type "dict", none, .dict #[⟨PyData.keyHash w.params "line", .str "line" t0, .ref a0⟩, ⟨PyData.keyHash w.params "turn", .str "turn" t1, .ref a1⟩, ⟨PyData.keyHash w.params "keep", .str "keep" t2, .ref a2⟩, ⟨PyData.keyHash w.params "every", .str "every" t3, .ref a3⟩, ⟨PyData.keyHash w.params "twice", .str "twice" t4, .ref a4⟩, ⟨PyData.keyHash w.params "sums", .str "sums" t5, .ref a5⟩, ⟨PyData.keyHash w.params "anew", .str "anew" t6, .ref a6⟩, ⟨PyData.keyHash w.params "gaps", .str "gaps" t7, .ref a7⟩, ⟨PyData.keyHash w.params "groups", .str "groups" t8, .ref a8⟩, ⟨PyData.keyHash w.params "count", .str "count" t9, .ref a9⟩] n, #[]⟩) (low : (d == sysModules) = false)
    (h0 : TupV K a0 [.str "a", .str "b"]) (h1 : TupV K a1 [.str "m", .str "r", .str "a", .str "b"]) (h2 : TupV K a2 [.str "m", .str "r"]) (h3 : TupV K a3 [.str "k", .str "r"]) (h4 : TupV K a4 []) (h5 : TupV K a5 []) (h6 : TupV K a6 [.str "m", .str "r"]) (h7 : TupV K a7 []) (h8 : TupV K a8 [.str "k"]) (h9 : TupV K a9 []) : LetOk K w := by
  have h : K.lookup d = some ⟨.type "dict", none, .dict (([("line", t0, .ref a0), ("turn", t1, .ref a1), ("keep", t2, .ref a2), ("every", t3, .ref a3), ("twice", t4, .ref a4), ("sums", t5, .ref a5), ("anew", t6, .ref a6), ("gaps", t7, .ref a7), ("groups", t8, .ref a8), ("count", t9, .ref a9)] : List (Str × Tok × Value)).map (ent w.params)).toArray n, #[]⟩ := h
  refine ⟨d, g, ⟨_, _, kd_ents h low⟩, fun z => ⟨_, ns_ents h z, ?_⟩⟩
  have al : All2 (fun (ls : List Str) v => ∃ a, v = .ref a ∧ ∀ H, SqT K H a (ls.map V.str)) [("line", t0, .ref a0), ("turn", t1, .ref a1), ("keep", t2, .ref a2), ("every", t3, .ref a3), ("twice", t4, .ref a4), ("sums", t5, .ref a5), ("anew", t6, .ref a6), ("gaps", t7, .ref a7), ("groups", t8, .ref a8), ("count", t9, .ref a9)] tab := ⟨rfl, ⟨_, rfl, h0.sq⟩, ⟨rfl, ⟨_, rfl, h1.sq⟩, ⟨rfl, ⟨_, rfl, h2.sq⟩, ⟨rfl, ⟨_, rfl, h3.sq⟩, ⟨rfl, ⟨_, rfl, h4.sq⟩, ⟨rfl, ⟨_, rfl, h5.sq⟩, ⟨rfl, ⟨_, rfl, h6.sq⟩, ⟨rfl, ⟨_, rfl, h7.sq⟩, ⟨rfl, ⟨_, rfl, h8.sq⟩, ⟨rfl, ⟨_, rfl, h9.sq⟩, trivial⟩⟩⟩⟩⟩⟩⟩⟩⟩⟩
  have := all2_find al z
  revert this
  cases tab.lookup z with
  | none => exact fun h => h
  | some ls => exact fun ⟨v, h1, a, h2, h3⟩ => ⟨a, by rw [h1, h2], h3⟩
def BndOk (K : PySem.W.Frag) (w : World) : Prop := ∃ d, PySem.W.nsIn K mainGlobals "BOUNDS" = some (some (.ref d)) ∧ BndT K w d
theorem bndOk {K : PySem.W.Frag} {w : World} {d : Addr} {n : Nat} {t0 t1 t2 t3 : Tok} {a0 a1 a2 a3 : Addr} (g : PySem.W.nsIn K mainGlobals "BOUNDS" = some (some (.ref d)))
    (h : K.lookup d = some ⟨.type "dict", none, .dict #[⟨PyData.keyHash w.params "a", .str "a" t0, .ref a0⟩, ⟨PyData.keyHash w.params "b", .str "b" t1, .ref a1⟩, ⟨PyData.keyHash w.params "m", .str "m" t2, .ref a2⟩, ⟨PyData.keyHash w.params "k", .str "k" t3, .ref a3⟩] n, #[]⟩) (low : (d == sysModules) = false)
    (h0 : TupV K a0 [.int (-3), .int (3)]) (h1 : TupV K a1 [.int (-9), .int (9)]) (h2 : TupV K a2 [.int (2), .int (3)]) (h3 : TupV K a3 [.int (2), .int (3)]) : BndOk K w := by
  have h : K.lookup d = some ⟨.type "dict", none, .dict (([("a", t0, .ref a0), ("b", t1, .ref a1), ("m", t2, .ref a2), ("k", t3, .ref a3)] : List (Str × Tok × Value)).map (ent w.params)).toArray n, #[]⟩ := h
  refine ⟨d, g, ⟨_, _, kd_ents h low⟩, fun p hp => ?_⟩
  unfold bnd at hp
  simp only [List.mem_cons, List.mem_nil_iff, or_false] at hp
  rcases hp with rfl | rfl | rfl | rfl
  · exact ⟨a0, (ns_ents h _).trans (by rfl), h0.sq⟩
  · exact ⟨a1, (ns_ents h _).trans (by rfl), h1.sq⟩
  · exact ⟨a2, (ns_ents h _).trans (by rfl), h2.sq⟩
  · exact ⟨a3, (ns_ents h _).trans (by rfl), h3.sq⟩
def LimOk (K : PySem.W.Frag) : Prop := ∃ d, PySem.W.nsIn K mainGlobals "LIMITS" = some (some (.ref d)) ∧ LimT K d
theorem limOk_ {K : PySem.W.Frag} {d r0 r1 r2 c0 c1 c2 : Addr} (g : PySem.W.nsIn K mainGlobals "LIMITS" = some (some (.ref d))) (h : TupV K d [.ref r0, .ref r1, .ref r2])
    (h0 : TupV K r0 [.int 2, .ref c0]) (k0 : TupV K c0 [.str "sums", .str "anew", .str "gaps", .str "groups", .str "count"]) (h1 : TupV K r1 [.int 2, .ref c1]) (k1 : TupV K c1 [.str "turn", .str "keep", .str "anew"]) (h2 : TupV K r2 [.int 1, .ref c2]) (k2 : TupV K c2 [.str "twice"]) : LimOk K := by
  refine ⟨d, g, ⟨[r0, r1, r2], h.sq, rfl, fun i p r hp hr => ?_⟩⟩
  match i, hp, hr with
  | 0, hp, hr =>
    cases hp
    cases hr
    exact ⟨c0, h0.sq, k0.sq⟩
  | 1, hp, hr =>
    cases hp
    cases hr
    exact ⟨c1, h1.sq, k1.sq⟩
  | 2, hp, hr =>
    cases hp
    cases hr
    exact ⟨c2, h2.sq, k2.sq⟩
  | n + 3, hp, hr => cases hp
def ExcQ (K : PySem.W.Frag) (C : Addr) : Prop := PySem.W.excIn K C [.type "ValueError", .type "Exception", .type "BaseException", .type "object"] "ValueError.__new__" = true ∧ PySem.W.keepIn K (.ref C) = true ∧ PySem.W.subIn K (.ref C) (.type "BaseException") = some true ∧ PySem.W.typeIn K (.ref C) = some (.type "type")
def GivOk (K : PySem.W.Frag) (w : World) : Prop := ∃ d, PySem.W.nsIn K mainGlobals "GIVERS" = some (some (.ref d)) ∧ (∃ es n, KDict K w d es n) ∧ (∃ f, PySem.W.nsIn K d "line" = some (some (.ref f)) ∧ PySem.W.nsIn K mainGlobals "give_line" = some (some (.ref f))) ∧ (∃ f, PySem.W.nsIn K d "turn" = some (some (.ref f)) ∧ PySem.W.nsIn K mainGlobals "give_turn" = some (some (.ref f))) ∧ (∃ f, PySem.W.nsIn K d "keep" = some (some (.ref f)) ∧ PySem.W.nsIn K mainGlobals "give_keep" = some (some (.ref f))) ∧ (∃ f, PySem.W.nsIn K d "every" = some (some (.ref f)) ∧ PySem.W.nsIn K mainGlobals "give_every" = some (some (.ref f))) ∧ (∃ f, PySem.W.nsIn K d "twice" = some (some (.ref f)) ∧ PySem.W.nsIn K mainGlobals "give_twice" = some (some (.ref f))) ∧ (∃ f, PySem.W.nsIn K d "sums" = some (some (.ref f)) ∧ PySem.W.nsIn K mainGlobals "give_sums" = some (some (.ref f))) ∧ (∃ f, PySem.W.nsIn K d "anew" = some (some (.ref f)) ∧ PySem.W.nsIn K mainGlobals "give_anew" = some (some (.ref f))) ∧ (∃ f, PySem.W.nsIn K d "gaps" = some (some (.ref f)) ∧ PySem.W.nsIn K mainGlobals "give_gaps" = some (some (.ref f))) ∧ (∃ f, PySem.W.nsIn K d "groups" = some (some (.ref f)) ∧ PySem.W.nsIn K mainGlobals "give_groups" = some (some (.ref f))) ∧ (∃ f, PySem.W.nsIn K d "count" = some (some (.ref f)) ∧ PySem.W.nsIn K mainGlobals "give_count" = some (some (.ref f)))
theorem givOk {K : PySem.W.Frag} {w : World} {d : Addr} {n : Nat} {t0 t1 t2 t3 t4 t5 t6 t7 t8 t9 : Tok} {f0 f1 f2 f3 f4 f5 f6 f7 f8 f9 : Addr} (g : PySem.W.nsIn K mainGlobals "GIVERS" = some (some (.ref d)))
    (h : K.lookup d = some ⟨.type "dict", none, .dict #[⟨PyData.keyHash w.params "line", .str "line" t0, .ref f0⟩, ⟨PyData.keyHash w.params "turn", .str "turn" t1, .ref f1⟩, ⟨PyData.keyHash w.params "keep", .str "keep" t2, .ref f2⟩, ⟨PyData.keyHash w.params "every", .str "every" t3, .ref f3⟩, ⟨PyData.keyHash w.params "twice", .str "twice" t4, .ref f4⟩, ⟨PyData.keyHash w.params "sums", .str "sums" t5, .ref f5⟩, ⟨PyData.keyHash w.params "anew", .str "anew" t6, .ref f6⟩, ⟨PyData.keyHash w.params "gaps", .str "gaps" t7, .ref f7⟩, ⟨PyData.keyHash w.params "groups", .str "groups" t8, .ref f8⟩, ⟨PyData.keyHash w.params "count", .str "count" t9, .ref f9⟩] n, #[]⟩) (low : (d == sysModules) = false)
    (h0 : PySem.W.nsIn K mainGlobals "give_line" = some (some (.ref f0))) (h1 : PySem.W.nsIn K mainGlobals "give_turn" = some (some (.ref f1))) (h2 : PySem.W.nsIn K mainGlobals "give_keep" = some (some (.ref f2))) (h3 : PySem.W.nsIn K mainGlobals "give_every" = some (some (.ref f3))) (h4 : PySem.W.nsIn K mainGlobals "give_twice" = some (some (.ref f4))) (h5 : PySem.W.nsIn K mainGlobals "give_sums" = some (some (.ref f5))) (h6 : PySem.W.nsIn K mainGlobals "give_anew" = some (some (.ref f6))) (h7 : PySem.W.nsIn K mainGlobals "give_gaps" = some (some (.ref f7))) (h8 : PySem.W.nsIn K mainGlobals "give_groups" = some (some (.ref f8))) (h9 : PySem.W.nsIn K mainGlobals "give_count" = some (some (.ref f9))) : GivOk K w := by
  have h : K.lookup d = some ⟨.type "dict", none, .dict (([("line", t0, .ref f0), ("turn", t1, .ref f1), ("keep", t2, .ref f2), ("every", t3, .ref f3), ("twice", t4, .ref f4), ("sums", t5, .ref f5), ("anew", t6, .ref f6), ("gaps", t7, .ref f7), ("groups", t8, .ref f8), ("count", t9, .ref f9)] : List (Str × Tok × Value)).map (ent w.params)).toArray n, #[]⟩ := h
  exact ⟨d, g, ⟨_, _, kd_ents h low⟩, ⟨f0, (ns_ents h _).trans (by rfl), h0⟩, ⟨f1, (ns_ents h _).trans (by rfl), h1⟩, ⟨f2, (ns_ents h _).trans (by rfl), h2⟩, ⟨f3, (ns_ents h _).trans (by rfl), h3⟩, ⟨f4, (ns_ents h _).trans (by rfl), h4⟩, ⟨f5, (ns_ents h _).trans (by rfl), h5⟩, ⟨f6, (ns_ents h _).trans (by rfl), h6⟩, ⟨f7, (ns_ents h _).trans (by rfl), h7⟩, ⟨f8, (ns_ents h _).trans (by rfl), h8⟩, ⟨f9, (ns_ents h _).trans (by rfl), h9⟩⟩
theorem calOf {P : Program} {w : World} {K : PySem.W.Frag} {mg : Str → Option Value} {base : Heap} {CX : CXT} {k : Nat} {x : Str} {st : Stmt} {f : Addr} {fd : FuncData} {ps : List Str} {sp : Sp} (m : mg x = some (.ref f)) (F : Fun K x x st f fd) (h : FnOk P w K mg base CX k f fd ps sp)
    (b : ∀ (kV doc pm : Value) (an : Option Addr) (cdv ct : Value) (us : List Value), us.length = ps.length → bindArgs (PySem.W.fnOf x x (defArgs st) (defBody st) (defScope st) .none kV doc pm an cdv ct) ⟨us, []⟩ = pure (ps.zip us)) : Cal P w K mg base CX k x ps sp := ⟨f, fd, h, m, F.kp, F.binds b⟩
theorem heldOf {P : Program} {w : World} {K : PySem.W.Frag} {mg : Str → Option Value} {base : Heap} {k : Nat} {x : Str} {st : Stmt} {f f' : Addr} {fd : FuncData} {ps : List Str} {sp : Sp} (a : PySem.W.nsIn K mainGlobals x = some (some (.ref f))) (a' : PySem.W.nsIn K mainGlobals x = some (some (.ref f'))) (F : Fun K x x st f fd) (h : FnOk P w K mg base CX0 k f fd ps sp)
    (b : ∀ (kV doc pm : Value) (an : Option Addr) (cdv ct : Value) (us : List Value), us.length = ps.length → bindArgs (PySem.W.fnOf x x (defArgs st) (defBody st) (defScope st) .none kV doc pm an cdv ct) ⟨us, []⟩ = pure (ps.zip us)) : Held P w K mg base k f' sp := by
  have e := a.symm.trans a'
  cases e
  exact ⟨fd, ps, h, F.kp, F.binds b⟩
end FC
set_option Elab.async false
set_option linter.all false
set_option maxRecDepth 100000
set_option maxHeartbeats 4000000
namespace FC
open PySem PySem.Spec PyProof.Rows L2
def MethG (K : PySem.W.Frag) (C : Addr) (m q : Str) (st : Stmt) : Prop := ∃ (f : Addr) (fd : FuncData), Fun K m q st f fd ∧ Meth K C m f
/-- what the top leaves of a class -/
structure ClsG (K : PySem.W.Frag) (x : Str) (C : Addr) (as : List Str) : Prop where
  g : PySem.W.nsIn K mainGlobals x = some (some (.ref C))
  cl : Cls K C
  no : ∀ a ∈ as, NoAttr K C a
  mki : PySem.W.makesIn K C = true
  kc : PySem.W.keepIn K (.ref C) = true
end FC
set_option Elab.async false
set_option linter.all false
set_option maxRecDepth 100000
set_option maxHeartbeats 4000000
namespace FC
open PySem PySem.Spec PyProof.Rows L2
structure BltOk (K : PySem.W.Frag) : Prop where
  n0 : PySem.W.nsIn K mainGlobals "isinstance" = some none
  n1 : PySem.W.nsIn K mainGlobals "int" = some none
  n2 : PySem.W.nsIn K mainGlobals "bool" = some none
  n3 : PySem.W.nsIn K mainGlobals "str" = some none
  n4 : PySem.W.nsIn K mainGlobals "tuple" = some none
  n5 : PySem.W.nsIn K mainGlobals "len" = some none
  n6 : PySem.W.nsIn K mainGlobals "all" = some none
  n7 : PySem.W.nsIn K mainGlobals "zip" = some none
  n8 : PySem.W.nsIn K mainGlobals "range" = some none
  n9 : PySem.W.nsIn K mainGlobals "max" = some none
  n10 : PySem.W.nsIn K mainGlobals "min" = some none
  n11 : PySem.W.nsIn K mainGlobals "sum" = some none
  n12 : PySem.W.nsIn K mainGlobals "ValueError" = some none
  n13 : PySem.W.nsIn K mainGlobals "enumerate" = some none
  n14 : PySem.W.nsIn K mainGlobals "list" = some none
  n15 : PySem.W.nsIn K mainGlobals "reversed" = some none
  n16 : PySem.W.nsIn K mainGlobals "divmod" = some none
  n17 : PySem.W.nsIn K mainGlobals "abs" = some none
  n18 : PySem.W.nsIn K mainGlobals "sorted" = some none
structure DefsOk (K : PySem.W.Frag) : Prop where
  d0 : DefOk K "is_whole" sIsWhole
  d1 : DefOk K "are_within" sWithin
  d2 : DefOk K "is_step" sIsStep
  d3 : DefOk K "keeps_limits" sLimits
  d4 : DefOk K "is_chain" sIsChain
  d5 : DefOk K "check_chain" sCheck
  d6 : DefOk K "only" sOnly
  d7 : DefOk K "without_zeros" sNz
  d8 : DefOk K "divisor" sDivisor
  d9 : DefOk K "divided" sDivided
  d10 : DefOk K "add_to" sAddTo
  d11 : DefOk K "combined" sCombined
  d12 : DefOk K "shortened" sShortened
  d13 : DefOk K "blended" sBlended
  d14 : DefOk K "modulus_ahead" sModAhead
  d15 : DefOk K "moduli_of" sModuliOf
  d16 : DefOk K "split_state" sSplitState
  d17 : DefOk K "count_line" sCountLine
  d18 : DefOk K "firsts_found" sFirstsFound
  d19 : DefOk K "alike" sAlike
  d20 : DefOk K "first_tests" sFirstTests
  d21 : DefOk K "moves_by_group" sMovesBy
  d22 : DefOk K "test_ahead" sTestAhead
  d23 : DefOk K "worth_of" sWorthOf
  d24 : DefOk K "refutes" sRefutes
  d25 : DefOk K "untied" sUntied
  d26 : DefOk K "spend_tests" sSpendTests
  d27 : DefOk K "told_rests" sToldRests
  d28 : DefOk K "free_anchors" sFreeAnchors
  d29 : DefOk K "moves_told" sMovesTold
  d30 : DefOk K "goes_evenly" sGoesEvenly
  d31 : DefOk K "is_even" sIsEven
  d32 : DefOk K "modulus_of" sModulusOf
  d33 : DefOk K "fraction" sFraction
  d34 : DefOk K "with_fractions" sWithFractions
  d35 : DefOk K "give_line" sGvLine
  d36 : DefOk K "give_turn" sGvTurn
  d37 : DefOk K "give_keep" sGvKeep
  d38 : DefOk K "give_every" sGvEvery
  d39 : DefOk K "give_twice" sGvTwice
  d40 : DefOk K "give_sums" sGvSums
  d41 : DefOk K "give_anew" sGvAnew
  d42 : DefOk K "give_gaps" sGvGaps
  d43 : DefOk K "give_groups" sGvGroups
  d44 : DefOk K "give_count" sGvCount
  d45 : DefOk K "pass_through" sPassT
  d46 : DefOk K "start" sStartP
  d47 : DefOk K "advance" sAdvance
  d48 : DefOk K "form" sForm
  d49 : DefOk K "_law_cell" sCell
  d50 : DefOk K "_law_drawn" sDrawn
  d51 : DefOk K "_law_roll" sRoll
  d52 : DefOk K "_law_rounds" sRounds
structure FormOk (K : PySem.W.Frag) (SC MCl GCl TCl : Addr) : Prop where
  kSpan : ClsG K "Span" SC ["lines"]
  kMachine : ClsG K "Machine" MCl ["chain", "moduli", "modulus", "controls", "spans", "anchors", "members", "moves"]
  kGroups : ClsG K "Groups" GCl ["firsts", "of_control", "counts", "anchors"]
  kTable : ClsG K "Table" TCl ["chain", "machine", "groups", "told", "modulus", "spans", "basis", "states", "entries"]
  m0 : MethG K SC "__init__" "Span.__init__" (spM 0)
  m1 : MethG K SC "place" "Span.place" (spM 1)
  m2 : MethG K SC "cleared" "Span.cleared" (spM 2)
  m3 : MethG K SC "take_in" "Span.take_in" (spM 3)
  m4 : MethG K MCl "__init__" "Machine.__init__" (mcM 0)
  m5 : MethG K MCl "locate" "Machine.locate" (mcM 1)
  m6 : MethG K MCl "move" "Machine.move" (mcM 2)
  m7 : MethG K GCl "__init__" "Groups.__init__" (grM 0)
  m8 : MethG K TCl "__init__" "Table.__init__" (tbM 0)
  m9 : MethG K TCl "entry" "Table.entry" (tbM 1)
  m10 : MethG K TCl "look_at" "Table.look_at" (tbM 2)
theorem look {l : PySem.W.OpenLaw} {w : World} {K : PySem.W.Frag} {h : Heap} {mg : Str → Option Value} {fa SC MCl GCl TCl c0 nh : Addr} {tM : Tok} (X : K.In h) (G : h.Ns mainGlobals mg) (hfa : mg "law" = some (.ref fa))
    (D : DefsOk K) (Bt : BltOk K) (tL : LetOk K w) (tB : BndOk K w) (tI : LimOk K) (mM : PySem.W.nsIn K mainGlobals "MOST_STEPS" = some (some (.int 4 tM))) (tGi : GivOk K w)
    (mNh : PySem.W.nsIn K mainGlobals "NOTHING_HELD" = some (some (.ref nh))) (tNh : TupV K nh [.int 0, .int 0]) (aGcd : PySem.W.nsIn K mainGlobals "gcd" = some (some (.builtin "math.gcd"))) (aLcm : PySem.W.nsIn K mainGlobals "lcm" = some (some (.builtin "math.lcm")))
    (FO : FormOk K SC MCl GCl TCl) (g0 : PySem.W.nsIn K mainGlobals "InvalidChain" = some (some (.ref c0))) (q0 : ExcQ K c0) (dl : DefOk K "law" sLaw) : LamX.LawAtS l w K CX0 13 63 "_law_script" mg fa h := by
  obtain ⟨fl, fdl, al, Fl⟩ := dl
  have e := hfa.symm.trans (PySem.W.mg_of X G al)
  cases e
  obtain ⟨oc, od, kV, doc, pm, an, cdv, ct, osl, e, lF, cF⟩ := Fl.ex
  subst e
  obtain ⟨c, rfl⟩ := He.codeIn_ref cF
  refine ⟨PySem.W.fnOf "law" "law" (defArgs sLaw) (defBody sLaw) (defScope sLaw) .none kV doc pm an (.ref c) ct, [], spLaw K, fun p hp => (nomatch hp), fun p hp => (nomatch hp), fun p hp => (nomatch hp), fun s u => .of_eq rfl,
    fun H a ns hl _ hT hS => ⟨a, ns, rfl, hS, hl, fun _ => rfl⟩, fun base _ _ hTB => ?_⟩
  have T : Blt mg := ⟨PySem.W.mg_none_of X G Bt.n0, PySem.W.mg_none_of X G Bt.n1, PySem.W.mg_none_of X G Bt.n2, PySem.W.mg_none_of X G Bt.n3, PySem.W.mg_none_of X G Bt.n4, PySem.W.mg_none_of X G Bt.n5, PySem.W.mg_none_of X G Bt.n6, PySem.W.mg_none_of X G Bt.n7, PySem.W.mg_none_of X G Bt.n8, PySem.W.mg_none_of X G Bt.n9, PySem.W.mg_none_of X G Bt.n10, PySem.W.mg_none_of X G Bt.n11, PySem.W.mg_none_of X G Bt.n12⟩
  have n_isinstance := PySem.W.mg_none_of X G Bt.n0
  have n_int := PySem.W.mg_none_of X G Bt.n1
  have n_bool := PySem.W.mg_none_of X G Bt.n2
  have n_str := PySem.W.mg_none_of X G Bt.n3
  have n_tuple := PySem.W.mg_none_of X G Bt.n4
  have n_len := PySem.W.mg_none_of X G Bt.n5
  have n_all := PySem.W.mg_none_of X G Bt.n6
  have n_zip := PySem.W.mg_none_of X G Bt.n7
  have n_range := PySem.W.mg_none_of X G Bt.n8
  have n_max := PySem.W.mg_none_of X G Bt.n9
  have n_min := PySem.W.mg_none_of X G Bt.n10
  have n_sum := PySem.W.mg_none_of X G Bt.n11
  have n_ValueError := PySem.W.mg_none_of X G Bt.n12
  have n_enumerate := PySem.W.mg_none_of X G Bt.n13
  have n_list := PySem.W.mg_none_of X G Bt.n14
  have n_reversed := PySem.W.mg_none_of X G Bt.n15
  have n_divmod := PySem.W.mg_none_of X G Bt.n16
  have n_abs := PySem.W.mg_none_of X G Bt.n17
  have n_sorted := PySem.W.mg_none_of X G Bt.n18
  have mGcd := PySem.W.mg_of X G aGcd
  have mLcm := PySem.W.mg_of X G aLcm
  obtain ⟨fis_whole, fdis_whole, ais_whole, Fis_whole⟩ := D.d0
  have mis_whole := PySem.W.mg_of X G ais_whole
  obtain ⟨fare_within, fdare_within, aare_within, Fare_within⟩ := D.d1
  have mare_within := PySem.W.mg_of X G aare_within
  obtain ⟨fis_step, fdis_step, ais_step, Fis_step⟩ := D.d2
  have mis_step := PySem.W.mg_of X G ais_step
  obtain ⟨fkeeps_limits, fdkeeps_limits, akeeps_limits, Fkeeps_limits⟩ := D.d3
  have mkeeps_limits := PySem.W.mg_of X G akeeps_limits
  obtain ⟨fis_chain, fdis_chain, ais_chain, Fis_chain⟩ := D.d4
  have mis_chain := PySem.W.mg_of X G ais_chain
  obtain ⟨fcheck_chain, fdcheck_chain, acheck_chain, Fcheck_chain⟩ := D.d5
  have mcheck_chain := PySem.W.mg_of X G acheck_chain
  obtain ⟨fonly, fdonly, aonly, Fonly⟩ := D.d6
  have monly := PySem.W.mg_of X G aonly
  obtain ⟨fwithout_zeros, fdwithout_zeros, awithout_zeros, Fwithout_zeros⟩ := D.d7
  have mwithout_zeros := PySem.W.mg_of X G awithout_zeros
  obtain ⟨fdivisor, fddivisor, adivisor, Fdivisor⟩ := D.d8
  have mdivisor := PySem.W.mg_of X G adivisor
  obtain ⟨fdivided, fddivided, adivided, Fdivided⟩ := D.d9
  have mdivided := PySem.W.mg_of X G adivided
  obtain ⟨fadd_to, fdadd_to, aadd_to, Fadd_to⟩ := D.d10
  have madd_to := PySem.W.mg_of X G aadd_to
  obtain ⟨fcombined, fdcombined, acombined, Fcombined⟩ := D.d11
  have mcombined := PySem.W.mg_of X G acombined
  obtain ⟨fshortened, fdshortened, ashortened, Fshortened⟩ := D.d12
  have mshortened := PySem.W.mg_of X G ashortened
  obtain ⟨fblended, fdblended, ablended, Fblended⟩ := D.d13
  have mblended := PySem.W.mg_of X G ablended
  obtain ⟨fmodulus_ahead, fdmodulus_ahead, amodulus_ahead, Fmodulus_ahead⟩ := D.d14
  have mmodulus_ahead := PySem.W.mg_of X G amodulus_ahead
  obtain ⟨fmoduli_of, fdmoduli_of, amoduli_of, Fmoduli_of⟩ := D.d15
  have mmoduli_of := PySem.W.mg_of X G amoduli_of
  obtain ⟨fsplit_state, fdsplit_state, asplit_state, Fsplit_state⟩ := D.d16
  have msplit_state := PySem.W.mg_of X G asplit_state
  obtain ⟨fcount_line, fdcount_line, acount_line, Fcount_line⟩ := D.d17
  have mcount_line := PySem.W.mg_of X G acount_line
  obtain ⟨ffirsts_found, fdfirsts_found, afirsts_found, Ffirsts_found⟩ := D.d18
  have mfirsts_found := PySem.W.mg_of X G afirsts_found
  obtain ⟨falike, fdalike, aalike, Falike⟩ := D.d19
  have malike := PySem.W.mg_of X G aalike
  obtain ⟨ffirst_tests, fdfirst_tests, afirst_tests, Ffirst_tests⟩ := D.d20
  have mfirst_tests := PySem.W.mg_of X G afirst_tests
  obtain ⟨fmoves_by_group, fdmoves_by_group, amoves_by_group, Fmoves_by_group⟩ := D.d21
  have mmoves_by_group := PySem.W.mg_of X G amoves_by_group
  obtain ⟨ftest_ahead, fdtest_ahead, atest_ahead, Ftest_ahead⟩ := D.d22
  have mtest_ahead := PySem.W.mg_of X G atest_ahead
  obtain ⟨fworth_of, fdworth_of, aworth_of, Fworth_of⟩ := D.d23
  have mworth_of := PySem.W.mg_of X G aworth_of
  obtain ⟨frefutes, fdrefutes, arefutes, Frefutes⟩ := D.d24
  have mrefutes := PySem.W.mg_of X G arefutes
  obtain ⟨funtied, fduntied, auntied, Funtied⟩ := D.d25
  have muntied := PySem.W.mg_of X G auntied
  obtain ⟨fspend_tests, fdspend_tests, aspend_tests, Fspend_tests⟩ := D.d26
  have mspend_tests := PySem.W.mg_of X G aspend_tests
  obtain ⟨ftold_rests, fdtold_rests, atold_rests, Ftold_rests⟩ := D.d27
  have mtold_rests := PySem.W.mg_of X G atold_rests
  obtain ⟨ffree_anchors, fdfree_anchors, afree_anchors, Ffree_anchors⟩ := D.d28
  have mfree_anchors := PySem.W.mg_of X G afree_anchors
  obtain ⟨fmoves_told, fdmoves_told, amoves_told, Fmoves_told⟩ := D.d29
  have mmoves_told := PySem.W.mg_of X G amoves_told
  obtain ⟨fgoes_evenly, fdgoes_evenly, agoes_evenly, Fgoes_evenly⟩ := D.d30
  have mgoes_evenly := PySem.W.mg_of X G agoes_evenly
  obtain ⟨fis_even, fdis_even, ais_even, Fis_even⟩ := D.d31
  have mis_even := PySem.W.mg_of X G ais_even
  obtain ⟨fmodulus_of, fdmodulus_of, amodulus_of, Fmodulus_of⟩ := D.d32
  have mmodulus_of := PySem.W.mg_of X G amodulus_of
  obtain ⟨ffraction, fdfraction, afraction, Ffraction⟩ := D.d33
  have mfraction := PySem.W.mg_of X G afraction
  obtain ⟨fwith_fractions, fdwith_fractions, awith_fractions, Fwith_fractions⟩ := D.d34
  have mwith_fractions := PySem.W.mg_of X G awith_fractions
  obtain ⟨fgive_line, fdgive_line, agive_line, Fgive_line⟩ := D.d35
  have mgive_line := PySem.W.mg_of X G agive_line
  obtain ⟨fgive_turn, fdgive_turn, agive_turn, Fgive_turn⟩ := D.d36
  have mgive_turn := PySem.W.mg_of X G agive_turn
  obtain ⟨fgive_keep, fdgive_keep, agive_keep, Fgive_keep⟩ := D.d37
  have mgive_keep := PySem.W.mg_of X G agive_keep
  obtain ⟨fgive_every, fdgive_every, agive_every, Fgive_every⟩ := D.d38
  have mgive_every := PySem.W.mg_of X G agive_every
  obtain ⟨fgive_twice, fdgive_twice, agive_twice, Fgive_twice⟩ := D.d39
  have mgive_twice := PySem.W.mg_of X G agive_twice
  obtain ⟨fgive_sums, fdgive_sums, agive_sums, Fgive_sums⟩ := D.d40
  have mgive_sums := PySem.W.mg_of X G agive_sums
  obtain ⟨fgive_anew, fdgive_anew, agive_anew, Fgive_anew⟩ := D.d41
  have mgive_anew := PySem.W.mg_of X G agive_anew
  obtain ⟨fgive_gaps, fdgive_gaps, agive_gaps, Fgive_gaps⟩ := D.d42
  have mgive_gaps := PySem.W.mg_of X G agive_gaps
  obtain ⟨fgive_groups, fdgive_groups, agive_groups, Fgive_groups⟩ := D.d43
  have mgive_groups := PySem.W.mg_of X G agive_groups
  obtain ⟨fgive_count, fdgive_count, agive_count, Fgive_count⟩ := D.d44
  have mgive_count := PySem.W.mg_of X G agive_count
  obtain ⟨fpass_through, fdpass_through, apass_through, Fpass_through⟩ := D.d45
  have mpass_through := PySem.W.mg_of X G apass_through
  obtain ⟨fstart, fdstart, astart, Fstart⟩ := D.d46
  have mstart := PySem.W.mg_of X G astart
  obtain ⟨fadvance, fdadvance, aadvance, Fadvance⟩ := D.d47
  have madvance := PySem.W.mg_of X G aadvance
  obtain ⟨fform, fdform, aform, Fform⟩ := D.d48
  have mform := PySem.W.mg_of X G aform
  obtain ⟨f_law_cell, fd_law_cell, a_law_cell, F_law_cell⟩ := D.d49
  have m_law_cell := PySem.W.mg_of X G a_law_cell
  obtain ⟨f_law_drawn, fd_law_drawn, a_law_drawn, F_law_drawn⟩ := D.d50
  have m_law_drawn := PySem.W.mg_of X G a_law_drawn
  obtain ⟨f_law_roll, fd_law_roll, a_law_roll, F_law_roll⟩ := D.d51
  have m_law_roll := PySem.W.mg_of X G a_law_roll
  obtain ⟨f_law_rounds, fd_law_rounds, a_law_rounds, F_law_rounds⟩ := D.d52
  have m_law_rounds := PySem.W.mg_of X G a_law_rounds
  obtain ⟨dL, gL, tL⟩ := tL
  obtain ⟨dB, gB, tB⟩ := tB
  obtain ⟨dI, gI, tI⟩ := tI
  have x0 : ExcT K mg "InvalidChain" c0 := ⟨PySem.W.mg_of X G g0, q0.1, q0.2.1, q0.2.2.1, q0.2.2.2⟩
  have TS : SpT K SC := ⟨FO.kSpan.cl, FO.kSpan.no _ (by simp)⟩
  have TM : McT K MCl := ⟨FO.kMachine.cl, FO.kMachine.no _ (by simp), FO.kMachine.no _ (by simp), FO.kMachine.no _ (by simp), FO.kMachine.no _ (by simp), FO.kMachine.no _ (by simp), FO.kMachine.no _ (by simp), FO.kMachine.no _ (by simp), FO.kMachine.no _ (by simp)⟩
  have TG : GrT K GCl := ⟨FO.kGroups.cl, FO.kGroups.no _ (by simp), FO.kGroups.no _ (by simp), FO.kGroups.no _ (by simp), FO.kGroups.no _ (by simp)⟩
  have TT : TbT K TCl := ⟨FO.kTable.cl, FO.kTable.no _ (by simp), FO.kTable.no _ (by simp), FO.kTable.no _ (by simp), FO.kTable.no _ (by simp), FO.kTable.no _ (by simp), FO.kTable.no _ (by simp), FO.kTable.no _ (by simp), FO.kTable.no _ (by simp), FO.kTable.no _ (by simp)⟩
  obtain ⟨fSpan_init, fdSpan_init, FSpan_init, MSpan_init⟩ := FO.m0
  have bSpan_init := FSpan_init.binds (ps := ["self"]) (fun _ _ _ _ _ _ us hl => match us, hl with | [_], _ => rfl)
  obtain ⟨fSpan_place, fdSpan_place, FSpan_place, MSpan_place⟩ := FO.m1
  have bSpan_place := FSpan_place.binds (ps := ["self", "blend", "name"]) (fun _ _ _ _ _ _ us hl => match us, hl with | [_, _, _], _ => rfl)
  obtain ⟨fSpan_cleared, fdSpan_cleared, FSpan_cleared, MSpan_cleared⟩ := FO.m2
  have bSpan_cleared := FSpan_cleared.binds (ps := ["self", "line"]) (fun _ _ _ _ _ _ us hl => match us, hl with | [_, _], _ => rfl)
  obtain ⟨fSpan_take_in, fdSpan_take_in, FSpan_take_in, MSpan_take_in⟩ := FO.m3
  have bSpan_take_in := FSpan_take_in.binds (ps := ["self", "lead", "line"]) (fun _ _ _ _ _ _ us hl => match us, hl with | [_, _, _], _ => rfl)
  obtain ⟨fMachine_init, fdMachine_init, FMachine_init, MMachine_init⟩ := FO.m4
  have bMachine_init := FMachine_init.binds (ps := ["self", "chain"]) (fun _ _ _ _ _ _ us hl => match us, hl with | [_, _], _ => rfl)
  obtain ⟨fMachine_locate, fdMachine_locate, FMachine_locate, MMachine_locate⟩ := FO.m5
  have bMachine_locate := FMachine_locate.binds (ps := ["self", "state"]) (fun _ _ _ _ _ _ us hl => match us, hl with | [_, _], _ => rfl)
  obtain ⟨fMachine_move, fdMachine_move, FMachine_move, MMachine_move⟩ := FO.m6
  have bMachine_move := FMachine_move.binds (ps := ["self", "state", "number"]) (fun _ _ _ _ _ _ us hl => match us, hl with | [_, _, _], _ => rfl)
  obtain ⟨fGroups_init, fdGroups_init, FGroups_init, MGroups_init⟩ := FO.m7
  have bGroups_init := FGroups_init.binds (ps := ["self", "machine"]) (fun _ _ _ _ _ _ us hl => match us, hl with | [_, _], _ => rfl)
  obtain ⟨fTable_init, fdTable_init, FTable_init, MTable_init⟩ := FO.m8
  have bTable_init := FTable_init.binds (ps := ["self", "chain"]) (fun _ _ _ _ _ _ us hl => match us, hl with | [_, _], _ => rfl)
  obtain ⟨fTable_entry, fdTable_entry, FTable_entry, MTable_entry⟩ := FO.m9
  have bTable_entry := FTable_entry.binds (ps := ["self", "row", "state", "number"]) (fun _ _ _ _ _ _ us hl => match us, hl with | [_, _, _, _], _ => rfl)
  obtain ⟨fTable_look_at, fdTable_look_at, FTable_look_at, MTable_look_at⟩ := FO.m10
  have bTable_look_at := FTable_look_at.binds (ps := ["self", "row", "state"]) (fun _ _ _ _ _ _ us hl => match us, hl with | [_, _, _], _ => rfl)
  have KSpan : Mk K SC fSpan_init := ⟨FO.kSpan.mki, MSpan_init.at_, MSpan_init.fn, FO.kSpan.kc⟩
  have gSpan := PySem.W.mg_of X G FO.kSpan.g
  have KMachine : Mk K MCl fMachine_init := ⟨FO.kMachine.mki, MMachine_init.at_, MMachine_init.fn, FO.kMachine.kc⟩
  have gMachine := PySem.W.mg_of X G FO.kMachine.g
  have KGroups : Mk K GCl fGroups_init := ⟨FO.kGroups.mki, MGroups_init.at_, MGroups_init.fn, FO.kGroups.kc⟩
  have gGroups := PySem.W.mg_of X G FO.kGroups.g
  have KTable : Mk K TCl fTable_init := ⟨FO.kTable.mki, MTable_init.at_, MTable_init.fn, FO.kTable.kc⟩
  have gTable := PySem.W.mg_of X G FO.kTable.g
  obtain ⟨dGi, gGi, kGi, ⟨p0, u0, v0⟩, ⟨p1, u1, v1⟩, ⟨p2, u2, v2⟩, ⟨p3, u3, v3⟩, ⟨p4, u4, v4⟩, ⟨p5, u5, v5⟩, ⟨p6, u6, v6⟩, ⟨p7, u7, v7⟩, ⟨p8, u8, v8⟩, ⟨p9, u9, v9⟩⟩ := tGi
  have tGi : GivT l.prog w K mg base dGi := ⟨kGi, fun p => by
    cases p <;> first
      | exact ⟨p0, u0, heldOf agive_line v0 Fgive_line (ok_gvLine Fgive_line) (fun _ _ _ _ _ _ us hl => match us, hl with | [_, _, _], _ => rfl)⟩
      | exact ⟨p1, u1, heldOf agive_turn v1 Fgive_turn (ok_gvTurn Fgive_turn) (fun _ _ _ _ _ _ us hl => match us, hl with | [_, _, _], _ => rfl)⟩
      | exact ⟨p2, u2, heldOf agive_keep v2 Fgive_keep (ok_gvKeep Fgive_keep) (fun _ _ _ _ _ _ us hl => match us, hl with | [_, _, _], _ => rfl)⟩
      | exact ⟨p3, u3, heldOf agive_every v3 Fgive_every (ok_gvEvery Fgive_every) (fun _ _ _ _ _ _ us hl => match us, hl with | [_, _, _], _ => rfl)⟩
      | exact ⟨p4, u4, heldOf agive_twice v4 Fgive_twice (ok_gvTwice Fgive_twice) (fun _ _ _ _ _ _ us hl => match us, hl with | [_, _, _], _ => rfl)⟩
      | exact ⟨p5, u5, heldOf agive_sums v5 Fgive_sums (ok_gvSums Fgive_sums) (fun _ _ _ _ _ _ us hl => match us, hl with | [_, _, _], _ => rfl)⟩
      | exact ⟨p6, u6, heldOf agive_anew v6 Fgive_anew (ok_gvAnew Fgive_anew) (fun _ _ _ _ _ _ us hl => match us, hl with | [_, _, _], _ => rfl)⟩
      | exact ⟨p7, u7, heldOf agive_gaps v7 Fgive_gaps (ok_gvGaps Fgive_gaps) (fun _ _ _ _ _ _ us hl => match us, hl with | [_, _, _], _ => rfl)⟩
      | exact ⟨p8, u8, heldOf agive_groups v8 Fgive_groups (ok_gvGroups Fgive_groups (PySem.W.mg_of X G mNh) tNh.sq) (fun _ _ _ _ _ _ us hl => match us, hl with | [_, _, _], _ => rfl)⟩
      | exact ⟨p9, u9, heldOf agive_count v9 Fgive_count (ok_gvCount Fgive_count) (fun _ _ _ _ _ _ us hl => match us, hl with | [_, _, _], _ => rfl)⟩⟩
  have Cis_whole := calOf (P := l.prog) (w := w) (base := base) mis_whole Fis_whole (ok_isWhole Fis_whole T) (fun _ _ _ _ _ _ us hl => match us, hl with | [_], _ => rfl)
  have Care_within := calOf (P := l.prog) (w := w) (base := base) mare_within Fare_within (ok_within Fare_within T Cis_whole (PySem.W.mg_of X G gB) tB) (fun _ _ _ _ _ _ us hl => match us, hl with | [_, _], _ => rfl)
  have Cis_step := calOf (P := l.prog) (w := w) (base := base) mis_step Fis_step (ok_isStep Fis_step T Care_within (PySem.W.mg_of X G gL) tL) (fun _ _ _ _ _ _ us hl => match us, hl with | [_], _ => rfl)
  have Ckeeps_limits := calOf (P := l.prog) (w := w) (base := base) mkeeps_limits Fkeeps_limits (ok_limits Fkeeps_limits T (PySem.W.mg_of X G gI) tI) (fun _ _ _ _ _ _ us hl => match us, hl with | [_], _ => rfl)
  have Cis_chain := calOf (P := l.prog) (w := w) (base := base) mis_chain Fis_chain (ok_isChain Fis_chain T Cis_step Ckeeps_limits (PySem.W.mg_of X G mM)) (fun _ _ _ _ _ _ us hl => match us, hl with | [_], _ => rfl)
  have Ccheck_chain := calOf (P := l.prog) (w := w) (base := base) mcheck_chain Fcheck_chain (ok_check Fcheck_chain Cis_chain x0) (fun _ _ _ _ _ _ us hl => match us, hl with | [_], _ => rfl)
  have Cpass_through := calOf (P := l.prog) (w := w) (base := base) mpass_through Fpass_through (ok_passT Fpass_through (PySem.W.mg_of X G gGi) tGi) (fun _ _ _ _ _ _ us hl => match us, hl with | [_, _, _], _ => rfl)
  have Cstart := calOf (P := l.prog) (w := w) (base := base) mstart Fstart (ok_startP Fstart T (PySem.W.mg_of X G mNh) tNh.sq) (fun _ _ _ _ _ _ us hl => match us, hl with | [_], _ => rfl)
  have Cadvance := calOf (P := l.prog) (w := w) (base := base) madvance Fadvance (ok_advance Fadvance T Cpass_through) (fun _ _ _ _ _ _ us hl => match us, hl with | [_, _, _], _ => rfl)
  have Conly := calOf (P := l.prog) (w := w) (base := base) monly Fonly (ok_only Fonly) (fun _ _ _ _ _ _ us hl => match us, hl with | [_], _ => rfl)
  have Cwithout_zeros := calOf (P := l.prog) (w := w) (base := base) mwithout_zeros Fwithout_zeros (ok_nz Fwithout_zeros) (fun _ _ _ _ _ _ us hl => match us, hl with | [_], _ => rfl)
  have Cdivisor := calOf (P := l.prog) (w := w) (base := base) mdivisor Fdivisor (ok_divisor Fdivisor mGcd) (fun _ _ _ _ _ _ us hl => match us, hl with | [_], _ => rfl)
  have Cdivided := calOf (P := l.prog) (w := w) (base := base) mdivided Fdivided (ok_divided Fdivided) (fun _ _ _ _ _ _ us hl => match us, hl with | [_, _], _ => rfl)
  have Cadd_to := calOf (P := l.prog) (w := w) (base := base) madd_to Fadd_to (ok_addTo Fadd_to) (fun _ _ _ _ _ _ us hl => match us, hl with | [_, _, _], _ => rfl)
  have Ccombined := calOf (P := l.prog) (w := w) (base := base) mcombined Fcombined (ok_combined Fcombined Cadd_to Cwithout_zeros Cdivisor Cdivided) (fun _ _ _ _ _ _ us hl => match us, hl with | [_, _, _, _], _ => rfl)
  have Cshortened := calOf (P := l.prog) (w := w) (base := base) mshortened Fshortened (ok_shortened Fshortened mGcd Cwithout_zeros Cdivisor Cdivided) (fun _ _ _ _ _ _ us hl => match us, hl with | [_, _], _ => rfl)
  have Cblended := calOf (P := l.prog) (w := w) (base := base) mblended Fblended (ok_blended Fblended mLcm Cadd_to Cshortened) (fun _ _ _ _ _ _ us hl => match us, hl with | [_, _], _ => rfl)
  have Cmodulus_ahead := calOf (P := l.prog) (w := w) (base := base) mmodulus_ahead Fmodulus_ahead (ok_modAhead Fmodulus_ahead mGcd mLcm) (fun _ _ _ _ _ _ us hl => match us, hl with | [_, _], _ => rfl)
  have Cmoduli_of := calOf (P := l.prog) (w := w) (base := base) mmoduli_of Fmoduli_of (ok_moduliOf Fmoduli_of n_reversed Cmodulus_ahead) (fun _ _ _ _ _ _ us hl => match us, hl with | [_], _ => rfl)
  have Csplit_state := calOf (P := l.prog) (w := w) (base := base) msplit_state Fsplit_state (ok_split Fsplit_state T n_divmod) (fun _ _ _ _ _ _ us hl => match us, hl with | [_, _], _ => rfl)
  have Ccount_line := calOf (P := l.prog) (w := w) (base := base) mcount_line Fcount_line (ok_countLine (SC := SC) Fcount_line TM T) (fun _ _ _ _ _ _ us hl => match us, hl with | [_, _], _ => rfl)
  have Cfirsts_found := calOf (P := l.prog) (w := w) (base := base) mfirsts_found Ffirsts_found (ok_firsts Ffirsts_found T) (fun _ _ _ _ _ _ us hl => match us, hl with | [_, _], _ => rfl)
  have Calike := calOf (P := l.prog) (w := w) (base := base) malike Falike (ok_alike Falike T) (fun _ _ _ _ _ _ us hl => match us, hl with | [_], _ => rfl)
  have Cfirst_tests := calOf (P := l.prog) (w := w) (base := base) mfirst_tests Ffirst_tests (ok_firstTests (SC := SC) Ffirst_tests TM TG T n_enumerate) (fun _ _ _ _ _ _ us hl => match us, hl with | [_, _], _ => rfl)
  have Cmoves_by_group := calOf (P := l.prog) (w := w) (base := base) mmoves_by_group Fmoves_by_group (ok_movesBy Fmoves_by_group TG T n_enumerate) (fun _ _ _ _ _ _ us hl => match us, hl with | [_], _ => rfl)
  have Ctest_ahead := calOf (P := l.prog) (w := w) (base := base) mtest_ahead Ftest_ahead (ok_testAhead (SC := SC) Ftest_ahead TM TG) (fun _ _ _ _ _ _ us hl => match us, hl with | [_, _, _, _, _], _ => rfl)
  have Cworth_of := calOf (P := l.prog) (w := w) (base := base) mworth_of Fworth_of (ok_worth Fworth_of) (fun _ _ _ _ _ _ us hl => match us, hl with | [_, _], _ => rfl)
  have Crefutes := calOf (P := l.prog) (w := w) (base := base) mrefutes Frefutes (ok_refutes Frefutes n_list Cworth_of Ccombined) (fun _ _ _ _ _ _ us hl => match us, hl with | [_, _], _ => rfl)
  have Cuntied := calOf (P := l.prog) (w := w) (base := base) muntied Funtied (ok_untied Funtied n_abs Cshortened) (fun _ _ _ _ _ _ us hl => match us, hl with | [_, _], _ => rfl)
  have Cspend_tests := calOf (P := l.prog) (w := w) (base := base) mspend_tests Fspend_tests (ok_spend Fspend_tests T Cfirst_tests Crefutes Cmoves_by_group Ctest_ahead) (fun _ _ _ _ _ _ us hl => match us, hl with | [_, _, _], _ => rfl)
  have Ctold_rests := calOf (P := l.prog) (w := w) (base := base) mtold_rests Ftold_rests (ok_toldRests Ftold_rests TM TG T Cspend_tests Conly Cuntied) (fun _ _ _ _ _ _ us hl => match us, hl with | [_, _], _ => rfl)
  have Cfree_anchors := calOf (P := l.prog) (w := w) (base := base) mfree_anchors Ffree_anchors (ok_free Ffree_anchors n_enumerate) (fun _ _ _ _ _ _ us hl => match us, hl with | [_], _ => rfl)
  have Cmoves_told := calOf (P := l.prog) (w := w) (base := base) mmoves_told Fmoves_told (ok_movesTold (SC := SC) Fmoves_told TM Cblended) (fun _ _ _ _ _ _ us hl => match us, hl with | [_, _, _], _ => rfl)
  have Cgoes_evenly := calOf (P := l.prog) (w := w) (base := base) mgoes_evenly Fgoes_evenly (ok_goes Fgoes_evenly T n_zip Cblended) (fun _ _ _ _ _ _ us hl => match us, hl with | [_, _], _ => rfl)
  have Cis_even := calOf (P := l.prog) (w := w) (base := base) mis_even Fis_even (ok_isEven Fis_even T n_all TG Cgoes_evenly) (fun _ _ _ _ _ _ us hl => match us, hl with | [_, _, _], _ => rfl)
  have Cmodulus_of := calOf (P := l.prog) (w := w) (base := base) mmodulus_of Fmodulus_of (ok_modulusOf Fmodulus_of T TM Cfree_anchors Cmoves_told Cis_even) (fun _ _ _ _ _ _ us hl => match us, hl with | [_, _, _], _ => rfl)
  have Cfraction := calOf (P := l.prog) (w := w) (base := base) mfraction Ffraction (ok_fraction Ffraction mGcd) (fun _ _ _ _ _ _ us hl => match us, hl with | [_, _], _ => rfl)
  have Cwith_fractions := calOf (P := l.prog) (w := w) (base := base) mwith_fractions Fwith_fractions (ok_withFr Fwith_fractions T n_sorted Cfraction) (fun _ _ _ _ _ _ us hl => match us, hl with | [_], _ => rfl)
  have gSI := ok_spanI (P := l.prog) (w := w) (base := base) (mg := mg) FSpan_init TS
  have gSC := ok_cleared (P := l.prog) (w := w) (base := base) (mg := mg) FSpan_cleared TS mLcm Cadd_to Cwithout_zeros
  have gST := ok_takeIn (P := l.prog) (w := w) (base := base) (mg := mg) FSpan_take_in TS n_list Cdivisor Cdivided Ccombined
  have gSP := ok_place (P := l.prog) (w := w) (base := base) (mg := mg) FSpan_place TS T gSC bSpan_cleared MSpan_cleared gST bSpan_take_in MSpan_take_in Conly Cshortened
  have gML := ok_locate (C := SC) (P := l.prog) (w := w) (base := base) (mg := mg) FMachine_locate TM TS T Csplit_state gSpan KSpan gSI bSpan_init gSP bSpan_place MSpan_place
  have gMM := ok_move (P := l.prog) (w := w) (base := base) (mg := mg) FMachine_move TM Cadvance gML bMachine_locate MMachine_locate
  have gMI := ok_macI (P := l.prog) (w := w) (base := base) (mg := mg) FMachine_init TM T Cmoduli_of Cstart gML bMachine_locate MMachine_locate gMM bMachine_move MMachine_move
  have gGI := ok_grpI (SC := SC) (P := l.prog) (w := w) (base := base) (mg := mg) FGroups_init TM TG T Ccount_line Calike Cfirsts_found n_enumerate n_zip
  have gTL := ok_lookAt (P := l.prog) (w := w) (base := base) (mg := mg) FTable_look_at TT TM TG TS T gML bMachine_locate MMachine_locate gSP bSpan_place MSpan_place Cblended Cwith_fractions
  have gTE := ok_entry (P := l.prog) (w := w) (base := base) (mg := mg) FTable_entry TT Cadvance gTL bTable_look_at MTable_look_at
  have gTI := ok_tabI (P := l.prog) (w := w) (base := base) (mg := mg) FTable_init TT TM TG TS T KMachine gMI bMachine_init gMachine KGroups gGI bGroups_init gGroups KSpan gSI bSpan_init gSpan Ctold_rests Cmodulus_of Cstart gTL bTable_look_at MTable_look_at gTE bTable_entry MTable_entry
  have Cform := calOf (P := l.prog) (w := w) (base := base) mform Fform (ok_form Fform TT TG T Ccheck_chain KTable gTI bTable_init gTable) (fun _ _ _ _ _ _ us hl => match us, hl with | [_], _ => rfl)
  have C_law_cell := calOf (P := l.prog) (w := w) (base := base) m_law_cell F_law_cell (ok_cell F_law_cell T) (fun _ _ _ _ _ _ us hl => match us, hl with | [_, _], _ => rfl)
  have C_law_drawn := calOf (P := l.prog) (w := w) (base := base) m_law_drawn F_law_drawn (ok_drawn F_law_drawn) (fun _ _ _ _ _ _ us hl => match us, hl with | [_, _], _ => rfl)
  have C_law_roll := calOf (P := l.prog) (w := w) (base := base) m_law_roll F_law_roll (ok_roll F_law_roll C_law_drawn) (fun _ _ _ _ _ _ us hl => match us, hl with | [_, _], _ => rfl)
  have C_law_rounds := calOf (P := l.prog) (w := w) (base := base) m_law_rounds F_law_rounds (ok_rounds F_law_rounds T C_law_cell) (fun _ _ _ _ _ _ us hl => match us, hl with | [_, _], _ => rfl)
  exact ok_law ⟨T, C_law_rounds, C_law_roll, Cform⟩ lF cF
end FC
set_option Elab.async false
set_option linter.all false
set_option maxRecDepth 100000
set_option maxHeartbeats 4000000
/-! What the top leaves, by one look (a Bool) at the written part. -/
namespace FC
open PySem PySem.Spec PyProof.Rows L2
section
variable {K : PySem.W.Frag}
theorem b2 {a b : Bool} (h : (a && b) = true) : a = true ∧ b = true := Bool.and_eq_true_iff.mp h
def refAt (K : PySem.W.Frag) (d : Addr) (z : Str) : Addr := match PySem.W.nsIn K d z with
  | some (some (.ref a)) => a
  | _ => 0
def isRef (K : PySem.W.Frag) (d : Addr) (z : Str) : Bool := decide (PySem.W.nsIn K d z = some (some (.ref (refAt K d z))))
def tupA (K : PySem.W.Frag) (a : Addr) (vs : List V) : Bool := match K.lookup a with
  | some ⟨.type c, _, .seq its _, _⟩ => decide (c = "tuple") && (decide (its.size ≤ sizeLine) && He.relAll vs its.toList)
  | _ => false
theorem tupA_ok {a : Addr} {vs : List V} (h : tupA K a vs = true) : TupV K a vs := by
  unfold tupA at h
  cases q : K.lookup a with
  | none => rw [q] at h; cases h
  | some o =>
    obtain ⟨oc, od, dt, osl⟩ := o
    rw [q] at h
    cases oc with
    | type c =>
      cases dt with
      | seq its n =>
        obtain ⟨h1, h2⟩ := b2 (show (decide (c = "tuple") && (decide (its.size ≤ sizeLine) && He.relAll vs its.toList)) = true from h)
        obtain ⟨h3, h4⟩ := b2 h2
        exact ⟨_, its, n, q, congrArg Value.type (of_decide_eq_true h1), rfl, of_decide_eq_true h3, He.relAll_ok h4⟩
      | _ => cases h
    | _ => cases dt <;> cases h
/-- the items of a tuple, if they are objects -/
def itemAt (K : PySem.W.Frag) (a : Addr) (i : Nat) : Addr := match K.lookup a with
  | some ⟨_, _, .seq its _, _⟩ => (match its.toList[i]? with
    | some (.ref b) => b
    | _ => 0)
  | _ => 0
theorem keys_out {P : Params} {z : Str} : ∀ {l : List DictEntry} {ks : List Str}, l.map He.keyOf = He.keysIn P ks → z ∉ ks → l.find? (·.key.isStr z) = none ∧ l.any (·.refKey) = false
  | [], _, _, _ => ⟨rfl, rfl⟩
  | e :: r, [], h, _ => by cases h
  | e :: r, k :: ks, h, hz => by
    have h1 : He.keyOf e :: r.map He.keyOf = some (k, PyData.keyHash P k) :: He.keysIn P ks := h
    injection h1 with h2 h3
    obtain ⟨i1, i2⟩ := keys_out h3 (fun q => hz (List.mem_cons_of_mem _ q))
    unfold He.keyOf at h2
    split at h2
    · rename_i x t q
      have h4 := Option.some.inj h2
      obtain ⟨h5, _⟩ := Prod.mk.inj h4
      have hx : x ≠ z := fun w => hz (by rw [← w, h5]; exact List.mem_cons_self)
      have f1 : e.key.isStr z = false := by
        rw [q]
        show (x == z) = false
        exact beq_eq_false_iff_ne.mpr hx
      have f2 : e.refKey = false := by
        obtain ⟨eh, ek, ev⟩ := e
        dsimp only at q
        subst q
        rfl
      exact ⟨by rw [List.find?_cons_of_neg (by rw [f1]; exact Bool.false_ne_true)]; exact i1, by rw [List.any_cons, f2, i2]; rfl⟩
    · cases h2
theorem dic_out {P : Params} {a : Addr} {ks : List Str} (h : He.dicW K a = some (He.keysIn P ks)) {z : Str} (hz : z ∉ ks) : PySem.W.nsIn K a z = some none := by
  unfold He.dicW at h
  cases q : K.lookup a with
  | none => rw [q] at h; cases h
  | some o =>
    obtain ⟨oc, od, dt, osl⟩ := o
    rw [q] at h
    cases oc with
    | type c =>
      cases od with
      | none =>
        cases dt with
        | dict es n =>
          dsimp only at h
          cases t : (decide (c = "dict") && (osl.isEmpty && !(a == sysModules))) with
          | false =>
            rw [t] at h
            cases h
          | true =>
            rw [t] at h
            obtain ⟨k1, k2⟩ := keys_out (Option.some.inj h) hz
            unfold PySem.W.nsIn
            rw [q]
            show (match es.toList.find? (·.key.isStr z) with
              | some e => some (some e.val)
              | none => if es.toList.any (·.refKey) then none else some none) = _
            rw [k1, k2]
            rfl
        | _ => cases h
      | some d => cases dt <;> cases h
    | _ => cases od <;> cases dt <;> cases h
theorem tab_at {fa : List He.Fa} {fn : List He.DefD} {ts : List He.Tab} {w : World} (c : He.SaysT fa fn ts w K) {t : He.Tab} (h : t ∈ ts) : He.dicW K (t.1 K) = some (He.keysIn w.params t.2) := by
  have e : ts.map (fun t => He.dicW K (t.1 K)) = ts.map fun t => some (He.keysIn w.params t.2) := congrArg (fun z : He.AlT => z.2) c
  obtain ⟨i, hi, e1⟩ := List.mem_iff_getElem.mp h
  have e2 : (ts.map fun t => He.dicW K (t.1 K))[i]? = (ts.map fun t => some (He.keysIn w.params t.2))[i]? := by rw [e]
  rw [List.getElem?_map, List.getElem?_map, List.getElem?_eq_getElem hi, e1] at e2
  exact Option.some.inj e2
/-! ### the tables -/
def gB (K : PySem.W.Frag) (x : Str) : Bool := decide (PySem.W.nsIn K mainGlobals x = some (some (.ref (He.ga K x))))
theorem gB_ok {x : Str} (h : gB K x = true) : PySem.W.nsIn K mainGlobals x = some (some (.ref (He.ga K x))) := of_decide_eq_true h
theorem glo_at {x : Str} (h : (He.Fa.glo x).ok K = true) : PySem.W.nsIn K mainGlobals x = some (some (.ref (He.ga K x))) := He.eqO_ok h
theorem free_at {x : Str} (h : (He.Fa.free x).ok K = true) : PySem.W.nsIn K mainGlobals x = some none := He.eqO_ok h
def letTab : He.Tab := (fun K => He.ga K "LETTERS", tab.map (·.1))
def letB (K : PySem.W.Frag) : Bool := gB K "LETTERS" && tab.all fun p => isRef K (He.ga K "LETTERS") p.1 && tupA K (refAt K (He.ga K "LETTERS") p.1) (p.2.map V.str)
theorem lookup_mem_fst {β : Type} : ∀ {l : List (Str × β)} {k : Str} {v : β}, l.lookup k = some v → (k, v) ∈ l := fun h => lookup_mem h
theorem lookup_none_fst {β : Type} {l : List (Str × β)} {k : Str} (h : l.lookup k = none) : k ∉ l.map (·.1) := fun hm => by
  obtain ⟨p, hp, e⟩ := List.mem_map.mp hm
  induction l with
  | nil => cases hp
  | cons q r ih =>
    obtain ⟨a, b⟩ := q
    rw [List.lookup_cons] at h
    split at h
    · cases h
    · rename_i hne
      rcases List.mem_cons.mp hp with z | z
      · subst z
        have e : a = k := e
        rw [e] at hne
        simp at hne
      · exact ih h (List.mem_map.mpr ⟨p, z, e⟩) z
theorem let_ok {fa : List He.Fa} {fn : List He.DefD} {ts : List He.Tab} {w : World} (c : He.SaysT fa fn ts w K) (ht : letTab ∈ ts) (h : letB K = true) : LetOk K w := by
  obtain ⟨h1, h2⟩ := b2 h
  have d := tab_at c ht
  obtain ⟨es, n, kd⟩ := He.dicW_ok d
  refine ⟨_, gB_ok h1, ⟨_, _, kd⟩, fun z => ?_⟩
  cases e : tab.lookup z with
  | none => exact ⟨none, dic_out d (lookup_none_fst e), rfl⟩
  | some ls =>
    obtain ⟨h3, h4⟩ := b2 (List.all_eq_true.mp h2 _ (lookup_mem_fst e))
    exact ⟨_, of_decide_eq_true h3, _, rfl, (tupA_ok h4).sq⟩
def bndTab : He.Tab := (fun K => He.ga K "BOUNDS", bnd.map (·.1))
def bndB (K : PySem.W.Frag) : Bool := gB K "BOUNDS" && bnd.all fun p => isRef K (He.ga K "BOUNDS") p.1 && tupA K (refAt K (He.ga K "BOUNDS") p.1) [.int p.2.1, .int p.2.2]
theorem bnd_ok {fa : List He.Fa} {fn : List He.DefD} {ts : List He.Tab} {w : World} (c : He.SaysT fa fn ts w K) (ht : bndTab ∈ ts) (h : bndB K = true) : BndOk K w := by
  obtain ⟨h1, h2⟩ := b2 h
  obtain ⟨es, n, kd⟩ := He.dicW_ok (tab_at c ht)
  refine ⟨_, gB_ok h1, ⟨_, _, kd⟩, fun p hp => ?_⟩
  obtain ⟨h3, h4⟩ := b2 (List.all_eq_true.mp h2 _ hp)
  exact ⟨_, of_decide_eq_true h3, (tupA_ok h4).sq⟩
def limB (K : PySem.W.Frag) : Bool := gB K "LIMITS" && (tupA K (He.ga K "LIMITS") [.ref (itemAt K (He.ga K "LIMITS") 0), .ref (itemAt K (He.ga K "LIMITS") 1), .ref (itemAt K (He.ga K "LIMITS") 2)] &&
  (tupA K (itemAt K (He.ga K "LIMITS") 0) [.int 2, .ref (itemAt K (itemAt K (He.ga K "LIMITS") 0) 1)] && (tupA K (itemAt K (itemAt K (He.ga K "LIMITS") 0) 1) [.str "sums", .str "anew", .str "gaps", .str "groups", .str "count"] &&
  (tupA K (itemAt K (He.ga K "LIMITS") 1) [.int 2, .ref (itemAt K (itemAt K (He.ga K "LIMITS") 1) 1)] && (tupA K (itemAt K (itemAt K (He.ga K "LIMITS") 1) 1) [.str "turn", .str "keep", .str "anew"] &&
  (tupA K (itemAt K (He.ga K "LIMITS") 2) [.int 1, .ref (itemAt K (itemAt K (He.ga K "LIMITS") 2) 1)] && tupA K (itemAt K (itemAt K (He.ga K "LIMITS") 2) 1) [.str "twice"]))))))
theorem lim_ok (h : limB K = true) : LimOk K := by
  obtain ⟨h0, h⟩ := b2 h
  obtain ⟨h1, h⟩ := b2 h
  obtain ⟨h2, h⟩ := b2 h
  obtain ⟨h3, h⟩ := b2 h
  obtain ⟨h4, h⟩ := b2 h
  obtain ⟨h5, h⟩ := b2 h
  obtain ⟨h6, h7⟩ := b2 h
  exact limOk_ (gB_ok h0) (tupA_ok h1) (tupA_ok h2) (tupA_ok h3) (tupA_ok h4) (tupA_ok h5) (tupA_ok h6) (tupA_ok h7)
def givL : List (Str × Str) := [("line", "give_line"), ("turn", "give_turn"), ("keep", "give_keep"), ("every", "give_every"), ("twice", "give_twice"), ("sums", "give_sums"), ("anew", "give_anew"), ("gaps", "give_gaps"), ("groups", "give_groups"), ("count", "give_count")]
def givTab : He.Tab := (fun K => He.ga K "GIVERS", givL.map (·.1))
def givB (K : PySem.W.Frag) : Bool := gB K "GIVERS" && givL.all fun p => gB K p.2 && decide (PySem.W.nsIn K (He.ga K "GIVERS") p.1 = some (some (.ref (He.ga K p.2))))
theorem giv_ok {fa : List He.Fa} {fn : List He.DefD} {ts : List He.Tab} {w : World} (c : He.SaysT fa fn ts w K) (ht : givTab ∈ ts) (h : givB K = true) : GivOk K w := by
  obtain ⟨h1, h2⟩ := b2 h
  have at_ : ∀ p ∈ givL, ∃ f, PySem.W.nsIn K (He.ga K "GIVERS") p.1 = some (some (.ref f)) ∧ PySem.W.nsIn K mainGlobals p.2 = some (some (.ref f)) := fun p hp => by
    obtain ⟨h3, h4⟩ := b2 (List.all_eq_true.mp h2 _ hp)
    exact ⟨_, of_decide_eq_true h4, gB_ok h3⟩
  have mem : ∀ i (hi : i < givL.length), givL[i] ∈ givL := fun i hi => List.getElem_mem hi
  exact ⟨_, gB_ok h1, He.dicW_ok (tab_at c ht), at_ _ (mem 0 (by decide)), at_ _ (mem 1 (by decide)), at_ _ (mem 2 (by decide)), at_ _ (mem 3 (by decide)), at_ _ (mem 4 (by decide)), at_ _ (mem 5 (by decide)), at_ _ (mem 6 (by decide)), at_ _ (mem 7 (by decide)), at_ _ (mem 8 (by decide)), at_ _ (mem 9 (by decide))⟩
/-! ### defs, classes, errors -/
theorem defOk_of {fa : List He.Fa} {fn : List He.DefD} {x : Str} {st : Stmt} (c : He.SaysD fa fn K) (g : He.Fa.glo x ∈ fa) (hm : (⟨(x, none), x, x, defArgs st, defBody st, defScope st, [], []⟩ : He.DefD) ∈ fn) : DefOk K x st := by
  obtain ⟨fd, F⟩ := c.defs hm
  exact ⟨_, fd, glo_at (c.facts g), He5.fun_of F⟩
theorem lawAt_of {fa : List He.Fa} {fn : List He.DefD} {ts : List He.Tab} {tf : List He.Defn} {ex : PySem.W.Frag → Bool} {w : World} {h : Heap} {x : Str} {st : Stmt} (c : He.SaysX fa fn ts tf ex w h K) (g : He.Fa.glo x ∈ fa) (hm : (⟨(x, none), x, x, defArgs st, defBody st, defScope st, [], []⟩ : He.DefD) ∈ fn) (ht : (x, none) ∈ tf) :
    ∃ (f cc : Addr) (oc kV doc pm ct : Value) (an od : Option Addr) (osl : Array (Option Value)), PySem.W.nsIn K mainGlobals x = some (some (.ref f)) ∧ K.lookup f = some ⟨oc, od, .func (PySem.W.fnOf x x (defArgs st) (defBody st) (defScope st) .none kV doc pm an (.ref cc) ct), osl⟩ ∧ PySem.W.codeIn K (.ref cc) x = true ∧
      PySem.W.keepIn K (.ref f) = true ∧ PySem.W.codeHdIn K cc (He.cT K (x, none)).2 = true := by
  obtain ⟨fd, F⟩ := c.t.d.defs hm
  have F2 := He5.fun_of F
  obtain ⟨oc, od, kV, doc, pm, an, cdv, ct, osl, e, l, q⟩ := F2.ex
  subst e
  obtain ⟨cc, rfl⟩ := He.codeIn_ref q
  have hd := c.hd _ ht
  rw [show (He.cT K (x, none)).1 = cc from He.codeOf_eq (p := (x, none)) l rfl] at hd
  exact ⟨_, cc, oc, kV, doc, pm, ct, an, od, osl, glo_at (c.t.d.facts g), l, q, F2.kp, hd⟩
def excB (K : PySem.W.Frag) (C : Addr) : Bool := decide (PySem.W.excIn K C [.type "ValueError", .type "Exception", .type "BaseException", .type "object"] "ValueError.__new__" = true) && (decide (PySem.W.keepIn K (.ref C) = true) && (decide (PySem.W.subIn K (.ref C) (.type "BaseException") = some true) && decide (PySem.W.typeIn K (.ref C) = some (.type "type"))))
theorem exc_ok {C : Addr} (h : excB K C = true) : ExcQ K C := by
  obtain ⟨h1, h⟩ := b2 h
  obtain ⟨h2, h⟩ := b2 h
  obtain ⟨h3, h4⟩ := b2 h
  exact ⟨of_decide_eq_true h1, of_decide_eq_true h2, of_decide_eq_true h3, of_decide_eq_true h4⟩
def nhB (K : PySem.W.Frag) : Bool := gB K "NOTHING_HELD" && tupA K (He.ga K "NOTHING_HELD") [.int 0, .int 0]
theorem nh_ok (h : nhB K = true) : PySem.W.nsIn K mainGlobals "NOTHING_HELD" = some (some (.ref (He.ga K "NOTHING_HELD"))) ∧ TupV K (He.ga K "NOTHING_HELD") [.int 0, .int 0] := by
  obtain ⟨h1, h2⟩ := b2 h
  exact ⟨gB_ok h1, tupA_ok h2⟩
def intB (K : PySem.W.Frag) (x : Str) (i : Int) : Bool := match PySem.W.nsIn K mainGlobals x with
  | some (some (.int j _)) => decide (j = i)
  | _ => false
theorem int_at {x : Str} {i : Int} (h : intB K x i = true) : ∃ t, PySem.W.nsIn K mainGlobals x = some (some (.int i t)) := by
  unfold intB at h
  cases q : PySem.W.nsIn K mainGlobals x with
  | none => rw [q] at h; cases h
  | some r =>
    rw [q] at h
    cases r with
    | none => cases h
    | some u =>
      cases u with
      | int j t => exact ⟨t, by rw [of_decide_eq_true h]⟩
      | _ => cases h
end
end FC
set_option Elab.async false
set_option linter.all false
set_option maxRecDepth 100000
set_option maxHeartbeats 4000000
namespace FC
open PySem PySem.Spec PyProof.Rows L2
section
variable {K : PySem.W.Frag}
def noAtG (K : PySem.W.Frag) (C : Addr) (x : Str) : Bool := decide (PySem.W.findIn K (.ref C) x = some none)
theorem methG_of {fa : List He.Fa} {fn : List He.DefD} {x m q : Str} {st : Stmt} (c : He.SaysD fa fn K) (g : He.Fa.meth x m ∈ fa) (hm : (⟨(x, some m), m, q, defArgs st, defBody st, defScope st, [], []⟩ : He.DefD) ∈ fn) : MethG K (He.ga K x) m q st := by
  obtain ⟨fd, F⟩ := c.defs hm
  exact ⟨_, fd, He5.fun_of F, He.meth_ok (c.facts g)⟩
def clsB (K : PySem.W.Frag) (x : Str) (as : List Str) : Bool := gB K x && (decide (PySem.W.plainGet K (He.ga K x) Str.empty = true) && (decide (PySem.W.hasDictIn K (He.ga K x) = true) && (decide (PySem.W.plainOver K (He.ga K x) = true) && (decide (PySem.W.findIn K (.ref (He.ga K x)) "__setattr__" = some (some (.builtin "object.__setattr__"))) &&
  (as.all (noAtG K (He.ga K x)) && (decide (PySem.W.makesIn K (He.ga K x) = true) && decide (PySem.W.keepIn K (.ref (He.ga K x)) = true)))))))
theorem cls_ok {x : Str} {as : List Str} (h : clsB K x as = true) : ClsG K x (He.ga K x) as := by
  obtain ⟨h0, h⟩ := b2 h
  obtain ⟨h1, h⟩ := b2 h
  obtain ⟨h2, h⟩ := b2 h
  obtain ⟨h3, h⟩ := b2 h
  obtain ⟨h4, h⟩ := b2 h
  obtain ⟨h5, h⟩ := b2 h
  obtain ⟨h6, h7⟩ := b2 h
  exact ⟨gB_ok h0, ⟨of_decide_eq_true h1, of_decide_eq_true h2, of_decide_eq_true h3, of_decide_eq_true h4⟩, fun a ha => (of_decide_eq_true (List.all_eq_true.mp h5 a ha) : PySem.W.findIn K (.ref (He.ga K x)) a = some none), of_decide_eq_true h6, of_decide_eq_true h7⟩
def bltB (K : PySem.W.Frag) (x : Str) (f : String) : Bool := decide (PySem.W.nsIn K mainGlobals x = some (some (.builtin f)))
end
end FC
set_option Elab.async false
set_option linter.all false
set_option maxRecDepth 100000
set_option maxHeartbeats 4000000
/-! A look at the heap's first objects, all of them. -/
namespace FC
open PySem PySem.Spec PyProof.Rows L2
def firstN (N : Nat) : List Addr := mainGlobals :: List.range N
def obsR (N : Nat) (fa : List He.Fa) (fn : List He.DefD) (ts : List He.Tab) (tf : List He.Defn) (ex : PySem.W.Frag → Bool) (g : Addr → Option Obj) : He.AlX := (fun K => (He.obsT fa fn ts K, ex K && He.tabsB g tf K)) (He.frT g (firstN N))
theorem saysR_of {N : Nat} {fa : List He.Fa} {fn : List He.DefD} {ts : List He.Tab} {tf : List He.Defn} {ex : PySem.W.Frag → Bool} {w : World} {h : Heap} (e : obsR N fa fn ts tf ex h.get? = He.valX fn ts w) : He.SaysX fa fn ts tf ex w h (He.frT h.get? (firstN N)) := by
  have e1 : He.obsT fa fn ts (He.frT h.get? (firstN N)) = He.valT fn ts w := congrArg (fun z : He.AlX => z.1) e
  have e2 : (ex (He.frT h.get? (firstN N)) && He.tabsB h.get? tf (He.frT h.get? (firstN N))) = true := congrArg (fun z : He.AlX => z.2) e
  generalize hK : He.frT h.get? (firstN N) = K at e1 e2 ⊢
  obtain ⟨m1, m2⟩ := b2 e2
  have one : ∀ p ∈ tf, PySem.W.codeHdIn K (He.cT K p).1 (He.cT K p).2 = true ∧ ∃ o, h.get? (He.cT K p).2 = some o ∧ He.emptyTab o = true := fun p hp => by
    obtain ⟨m3, m4⟩ := b2 (List.all_eq_true.mp m2 p hp)
    cases q : h.get? (He.cT K p).2 with
    | none => rw [q] at m4; cases m4
    | some o => rw [q] at m4; exact ⟨m3, o, rfl, m4⟩
  refine ⟨e1, m1, fun p hp => (one p hp).1, fun p hp => ?_, fun p hp => ?_⟩
  · obtain ⟨_, o, q, z⟩ := one p hp
    rw [← hK] at q ⊢
    exact He.frT_none q z
  · obtain ⟨_, o, q, z⟩ := one p hp
    rw [q, He.emptyTab_eq z]
def hookR (N : Nat) (fa : List He.Fa) (fn : List He.DefD) (ts : List He.Tab) (tf : List He.Defn) (ex : PySem.W.Frag → Bool) : PySem.W.Hook where
  α := He.AlX
  obs := fun s => obsR N fa fn ts tf ex s.heap.get?
  val := fun w => He.valX fn ts w
  says := fun w h => ∃ K : PySem.W.Frag, K.In h ∧ He.SaysX fa fn ts tf ex w h K
  of := fun _ _ e => ⟨_, He.frT_in, saysR_of e⟩
  keeps := fun _ _ _ ⟨K, hK, c⟩ k => ⟨K, PySem.W.Frag.In.keeps hK k, ⟨c.t, c.more, c.hd, c.out, fun p hp => k _ _ (c.empty p hp)⟩⟩
theorem obsR_eq {N : Nat} {fa : List He.Fa} {fn : List He.DefD} {ts : List He.Tab} {tf : List He.Defn} {ex : PySem.W.Frag → Bool} {g : Addr → Option Obj} {s : Shared} (h : ∀ a, g a = s.heap.get? a) : obsR N fa fn ts tf ex g = (hookR N fa fn ts tf ex).obs s := by
  rw [show g = s.heap.get? from funext h] <;> rfl
end FC
set_option Elab.async false
set_option linter.all false
set_option maxRecDepth 100000
set_option maxHeartbeats 0
namespace FC
open PySem PySem.Spec PyProof.Rows L2
def hFn_0 : List He.DefD := [⟨("is_whole", none), "is_whole", "is_whole", defArgs sIsWhole, defBody sIsWhole, defScope sIsWhole, [], []⟩,
  ⟨("are_within", none), "are_within", "are_within", defArgs sWithin, defBody sWithin, defScope sWithin, [], []⟩,
  ⟨("is_step", none), "is_step", "is_step", defArgs sIsStep, defBody sIsStep, defScope sIsStep, [], []⟩,
  ⟨("keeps_limits", none), "keeps_limits", "keeps_limits", defArgs sLimits, defBody sLimits, defScope sLimits, [], []⟩,
  ⟨("is_chain", none), "is_chain", "is_chain", defArgs sIsChain, defBody sIsChain, defScope sIsChain, [], []⟩,
  ⟨("check_chain", none), "check_chain", "check_chain", defArgs sCheck, defBody sCheck, defScope sCheck, [], []⟩,
  ⟨("only", none), "only", "only", defArgs sOnly, defBody sOnly, defScope sOnly, [], []⟩,
  ⟨("without_zeros", none), "without_zeros", "without_zeros", defArgs sNz, defBody sNz, defScope sNz, [], []⟩,
  ⟨("divisor", none), "divisor", "divisor", defArgs sDivisor, defBody sDivisor, defScope sDivisor, [], []⟩,
  ⟨("divided", none), "divided", "divided", defArgs sDivided, defBody sDivided, defScope sDivided, [], []⟩,
  ⟨("add_to", none), "add_to", "add_to", defArgs sAddTo, defBody sAddTo, defScope sAddTo, [], []⟩,
  ⟨("combined", none), "combined", "combined", defArgs sCombined, defBody sCombined, defScope sCombined, [], []⟩,
  ⟨("shortened", none), "shortened", "shortened", defArgs sShortened, defBody sShortened, defScope sShortened, [], []⟩,
  ⟨("blended", none), "blended", "blended", defArgs sBlended, defBody sBlended, defScope sBlended, [], []⟩,
  ⟨("modulus_ahead", none), "modulus_ahead", "modulus_ahead", defArgs sModAhead, defBody sModAhead, defScope sModAhead, [], []⟩,
  ⟨("moduli_of", none), "moduli_of", "moduli_of", defArgs sModuliOf, defBody sModuliOf, defScope sModuliOf, [], []⟩,
  ⟨("split_state", none), "split_state", "split_state", defArgs sSplitState, defBody sSplitState, defScope sSplitState, [], []⟩,
  ⟨("count_line", none), "count_line", "count_line", defArgs sCountLine, defBody sCountLine, defScope sCountLine, [], []⟩,
  ⟨("firsts_found", none), "firsts_found", "firsts_found", defArgs sFirstsFound, defBody sFirstsFound, defScope sFirstsFound, [], []⟩,
  ⟨("alike", none), "alike", "alike", defArgs sAlike, defBody sAlike, defScope sAlike, [], []⟩,
  ⟨("first_tests", none), "first_tests", "first_tests", defArgs sFirstTests, defBody sFirstTests, defScope sFirstTests, [], []⟩,
  ⟨("moves_by_group", none), "moves_by_group", "moves_by_group", defArgs sMovesBy, defBody sMovesBy, defScope sMovesBy, [], []⟩,
  ⟨("test_ahead", none), "test_ahead", "test_ahead", defArgs sTestAhead, defBody sTestAhead, defScope sTestAhead, [], []⟩,
  ⟨("worth_of", none), "worth_of", "worth_of", defArgs sWorthOf, defBody sWorthOf, defScope sWorthOf, [], []⟩,
  ⟨("refutes", none), "refutes", "refutes", defArgs sRefutes, defBody sRefutes, defScope sRefutes, [], []⟩,
  ⟨("untied", none), "untied", "untied", defArgs sUntied, defBody sUntied, defScope sUntied, [], []⟩,
  ⟨("spend_tests", none), "spend_tests", "spend_tests", defArgs sSpendTests, defBody sSpendTests, defScope sSpendTests, [], []⟩,
  ⟨("told_rests", none), "told_rests", "told_rests", defArgs sToldRests, defBody sToldRests, defScope sToldRests, [], []⟩,
  ⟨("free_anchors", none), "free_anchors", "free_anchors", defArgs sFreeAnchors, defBody sFreeAnchors, defScope sFreeAnchors, [], []⟩,
  ⟨("moves_told", none), "moves_told", "moves_told", defArgs sMovesTold, defBody sMovesTold, defScope sMovesTold, [], []⟩]
def hFn_1 : List He.DefD := [⟨("goes_evenly", none), "goes_evenly", "goes_evenly", defArgs sGoesEvenly, defBody sGoesEvenly, defScope sGoesEvenly, [], []⟩,
  ⟨("is_even", none), "is_even", "is_even", defArgs sIsEven, defBody sIsEven, defScope sIsEven, [], []⟩,
  ⟨("modulus_of", none), "modulus_of", "modulus_of", defArgs sModulusOf, defBody sModulusOf, defScope sModulusOf, [], []⟩,
  ⟨("fraction", none), "fraction", "fraction", defArgs sFraction, defBody sFraction, defScope sFraction, [], []⟩,
  ⟨("with_fractions", none), "with_fractions", "with_fractions", defArgs sWithFractions, defBody sWithFractions, defScope sWithFractions, [], []⟩,
  ⟨("give_line", none), "give_line", "give_line", defArgs sGvLine, defBody sGvLine, defScope sGvLine, [], []⟩,
  ⟨("give_turn", none), "give_turn", "give_turn", defArgs sGvTurn, defBody sGvTurn, defScope sGvTurn, [], []⟩,
  ⟨("give_keep", none), "give_keep", "give_keep", defArgs sGvKeep, defBody sGvKeep, defScope sGvKeep, [], []⟩,
  ⟨("give_every", none), "give_every", "give_every", defArgs sGvEvery, defBody sGvEvery, defScope sGvEvery, [], []⟩,
  ⟨("give_twice", none), "give_twice", "give_twice", defArgs sGvTwice, defBody sGvTwice, defScope sGvTwice, [], []⟩,
  ⟨("give_sums", none), "give_sums", "give_sums", defArgs sGvSums, defBody sGvSums, defScope sGvSums, [], []⟩,
  ⟨("give_anew", none), "give_anew", "give_anew", defArgs sGvAnew, defBody sGvAnew, defScope sGvAnew, [], []⟩,
  ⟨("give_gaps", none), "give_gaps", "give_gaps", defArgs sGvGaps, defBody sGvGaps, defScope sGvGaps, [], []⟩,
  ⟨("give_groups", none), "give_groups", "give_groups", defArgs sGvGroups, defBody sGvGroups, defScope sGvGroups, [], []⟩,
  ⟨("give_count", none), "give_count", "give_count", defArgs sGvCount, defBody sGvCount, defScope sGvCount, [], []⟩,
  ⟨("pass_through", none), "pass_through", "pass_through", defArgs sPassT, defBody sPassT, defScope sPassT, [], []⟩,
  ⟨("start", none), "start", "start", defArgs sStartP, defBody sStartP, defScope sStartP, [], []⟩,
  ⟨("advance", none), "advance", "advance", defArgs sAdvance, defBody sAdvance, defScope sAdvance, [], []⟩,
  ⟨("form", none), "form", "form", defArgs sForm, defBody sForm, defScope sForm, [], []⟩,
  ⟨("_law_cell", none), "_law_cell", "_law_cell", defArgs sCell, defBody sCell, defScope sCell, [], []⟩,
  ⟨("_law_drawn", none), "_law_drawn", "_law_drawn", defArgs sDrawn, defBody sDrawn, defScope sDrawn, [], []⟩,
  ⟨("_law_roll", none), "_law_roll", "_law_roll", defArgs sRoll, defBody sRoll, defScope sRoll, [], []⟩,
  ⟨("_law_rounds", none), "_law_rounds", "_law_rounds", defArgs sRounds, defBody sRounds, defScope sRounds, [], []⟩,
  ⟨("law", none), "law", "law", defArgs sLaw, defBody sLaw, defScope sLaw, [], []⟩,
  ⟨("Span", some "__init__"), "__init__", "Span.__init__", defArgs (spM 0), defBody (spM 0), defScope (spM 0), [], []⟩,
  ⟨("Span", some "place"), "place", "Span.place", defArgs (spM 1), defBody (spM 1), defScope (spM 1), [], []⟩,
  ⟨("Span", some "cleared"), "cleared", "Span.cleared", defArgs (spM 2), defBody (spM 2), defScope (spM 2), [], []⟩,
  ⟨("Span", some "take_in"), "take_in", "Span.take_in", defArgs (spM 3), defBody (spM 3), defScope (spM 3), [], []⟩,
  ⟨("Machine", some "__init__"), "__init__", "Machine.__init__", defArgs (mcM 0), defBody (mcM 0), defScope (mcM 0), [], []⟩,
  ⟨("Machine", some "locate"), "locate", "Machine.locate", defArgs (mcM 1), defBody (mcM 1), defScope (mcM 1), [], []⟩]
def hFn_2 : List He.DefD := [⟨("Machine", some "move"), "move", "Machine.move", defArgs (mcM 2), defBody (mcM 2), defScope (mcM 2), [], []⟩,
  ⟨("Groups", some "__init__"), "__init__", "Groups.__init__", defArgs (grM 0), defBody (grM 0), defScope (grM 0), [], []⟩,
  ⟨("Table", some "__init__"), "__init__", "Table.__init__", defArgs (tbM 0), defBody (tbM 0), defScope (tbM 0), [], []⟩,
  ⟨("Table", some "entry"), "entry", "Table.entry", defArgs (tbM 1), defBody (tbM 1), defScope (tbM 1), [], []⟩,
  ⟨("Table", some "look_at"), "look_at", "Table.look_at", defArgs (tbM 2), defBody (tbM 2), defScope (tbM 2), [], []⟩]
def hFn : List He.DefD := hFn_0 ++ hFn_1 ++ hFn_2
def hFa_0 : List He.Fa := [.glo "is_whole",
  .glo "are_within",
  .glo "is_step",
  .glo "keeps_limits",
  .glo "is_chain",
  .glo "check_chain",
  .glo "only",
  .glo "without_zeros",
  .glo "divisor",
  .glo "divided",
  .glo "add_to",
  .glo "combined",
  .glo "shortened",
  .glo "blended",
  .glo "modulus_ahead",
  .glo "moduli_of",
  .glo "split_state",
  .glo "count_line",
  .glo "firsts_found",
  .glo "alike",
  .glo "first_tests",
  .glo "moves_by_group",
  .glo "test_ahead",
  .glo "worth_of",
  .glo "refutes",
  .glo "untied",
  .glo "spend_tests",
  .glo "told_rests",
  .glo "free_anchors",
  .glo "moves_told"]
def hFa_1 : List He.Fa := [.glo "goes_evenly",
  .glo "is_even",
  .glo "modulus_of",
  .glo "fraction",
  .glo "with_fractions",
  .glo "give_line",
  .glo "give_turn",
  .glo "give_keep",
  .glo "give_every",
  .glo "give_twice",
  .glo "give_sums",
  .glo "give_anew",
  .glo "give_gaps",
  .glo "give_groups",
  .glo "give_count",
  .glo "pass_through",
  .glo "start",
  .glo "advance",
  .glo "form",
  .glo "_law_cell",
  .glo "_law_drawn",
  .glo "_law_roll",
  .glo "_law_rounds",
  .glo "law",
  .glo "InvalidChain",
  .free "isinstance",
  .free "int",
  .free "bool",
  .free "str",
  .free "tuple"]
def hFa_2 : List He.Fa := [.free "len",
  .free "all",
  .free "zip",
  .free "range",
  .free "max",
  .free "min",
  .free "sum",
  .free "ValueError",
  .free "enumerate",
  .free "list",
  .free "reversed",
  .free "divmod",
  .free "abs",
  .free "sorted",
  .meth "Span" "__init__",
  .meth "Span" "place",
  .meth "Span" "cleared",
  .meth "Span" "take_in",
  .meth "Machine" "__init__",
  .meth "Machine" "locate",
  .meth "Machine" "move",
  .meth "Groups" "__init__",
  .meth "Table" "__init__",
  .meth "Table" "entry",
  .meth "Table" "look_at"]
def hFa : List He.Fa := hFa_0 ++ hFa_1 ++ hFa_2
def hTs : List He.Tab := [letTab, bndTab, givTab]
def hTf : List He.Defn := []
def hEx (K : PySem.W.Frag) : Bool := [
  letB K,
  bndB K,
  limB K,
  intB K "MOST_STEPS" 4,
  givB K,
  nhB K,
  excB K (He.ga K "InvalidChain"),
  bltB K "gcd" "math.gcd",
  bltB K "lcm" "math.lcm",
  clsB K "Span" ["lines"],
  clsB K "Machine" ["chain", "moduli", "modulus", "controls", "spans", "anchors", "members", "moves"],
  clsB K "Groups" ["firsts", "of_control", "counts", "anchors"],
  clsB K "Table" ["chain", "machine", "groups", "told", "modulus", "spans", "basis", "states", "entries"]].all id
theorem hex {K : PySem.W.Frag} (h : hEx K = true) : ∀ b, b ∈ [
  letB K,
  bndB K,
  limB K,
  intB K "MOST_STEPS" 4,
  givB K,
  nhB K,
  excB K (He.ga K "InvalidChain"),
  bltB K "gcd" "math.gcd",
  bltB K "lcm" "math.lcm",
  clsB K "Span" ["lines"],
  clsB K "Machine" ["chain", "moduli", "modulus", "controls", "spans", "anchors", "members", "moves"],
  clsB K "Groups" ["firsts", "of_control", "counts", "anchors"],
  clsB K "Table" ["chain", "machine", "groups", "told", "modulus", "spans", "basis", "states", "entries"]] → b = true := fun b hb => List.all_eq_true.mp h b hb
theorem head_facts {l : PySem.W.OpenLaw} {w : World} {K : PySem.W.Frag} {h : Heap} {mg : Str → Option Value} {fa : Addr} (X : K.In h) (G : h.Ns mainGlobals mg) (hfa : mg "law" = some (.ref fa)) (c : He.SaysX hFa hFn hTs hTf hEx w h K) : LamX.LawAtS l w K CX0 13 63 "_law_script" mg fa h := by
  have E := hex c.more
  have cd := c.t.d
  have mf : ∀ (i : Nat) {f : He.Fa}, hFa[i]? = some f → f ∈ hFa := fun i f e => List.mem_of_getElem? e
  have md : ∀ (i : Nat) {d : He.DefD}, hFn[i]? = some d → d ∈ hFn := fun i d e => List.mem_of_getElem? e
  have e0 := E _ (List.mem_of_getElem? (i := 0) rfl)
  have e1 := E _ (List.mem_of_getElem? (i := 1) rfl)
  have e2 := E _ (List.mem_of_getElem? (i := 2) rfl)
  have e3 := E _ (List.mem_of_getElem? (i := 3) rfl)
  have e4 := E _ (List.mem_of_getElem? (i := 4) rfl)
  have e5 := E _ (List.mem_of_getElem? (i := 5) rfl)
  have e6 := E _ (List.mem_of_getElem? (i := 6) rfl)
  have e7 := E _ (List.mem_of_getElem? (i := 7) rfl)
  have e8 := E _ (List.mem_of_getElem? (i := 8) rfl)
  have e9 := E _ (List.mem_of_getElem? (i := 9) rfl)
  have e10 := E _ (List.mem_of_getElem? (i := 10) rfl)
  have e11 := E _ (List.mem_of_getElem? (i := 11) rfl)
  have e12 := E _ (List.mem_of_getElem? (i := 12) rfl)
  obtain ⟨nh1, nh2⟩ := nh_ok e5
  obtain ⟨t3, i3⟩ := int_at e3
  have D : DefsOk K := ⟨defOk_of cd (mf 0 rfl) (md 0 rfl), defOk_of cd (mf 1 rfl) (md 1 rfl), defOk_of cd (mf 2 rfl) (md 2 rfl), defOk_of cd (mf 3 rfl) (md 3 rfl), defOk_of cd (mf 4 rfl) (md 4 rfl), defOk_of cd (mf 5 rfl) (md 5 rfl), defOk_of cd (mf 6 rfl) (md 6 rfl), defOk_of cd (mf 7 rfl) (md 7 rfl), defOk_of cd (mf 8 rfl) (md 8 rfl), defOk_of cd (mf 9 rfl) (md 9 rfl), defOk_of cd (mf 10 rfl) (md 10 rfl), defOk_of cd (mf 11 rfl) (md 11 rfl), defOk_of cd (mf 12 rfl) (md 12 rfl), defOk_of cd (mf 13 rfl) (md 13 rfl), defOk_of cd (mf 14 rfl) (md 14 rfl), defOk_of cd (mf 15 rfl) (md 15 rfl), defOk_of cd (mf 16 rfl) (md 16 rfl), defOk_of cd (mf 17 rfl) (md 17 rfl), defOk_of cd (mf 18 rfl) (md 18 rfl), defOk_of cd (mf 19 rfl) (md 19 rfl), defOk_of cd (mf 20 rfl) (md 20 rfl), defOk_of cd (mf 21 rfl) (md 21 rfl), defOk_of cd (mf 22 rfl) (md 22 rfl), defOk_of cd (mf 23 rfl) (md 23 rfl), defOk_of cd (mf 24 rfl) (md 24 rfl), defOk_of cd (mf 25 rfl) (md 25 rfl), defOk_of cd (mf 26 rfl) (md 26 rfl), defOk_of cd (mf 27 rfl) (md 27 rfl), defOk_of cd (mf 28 rfl) (md 28 rfl), defOk_of cd (mf 29 rfl) (md 29 rfl), defOk_of cd (mf 30 rfl) (md 30 rfl), defOk_of cd (mf 31 rfl) (md 31 rfl), defOk_of cd (mf 32 rfl) (md 32 rfl), defOk_of cd (mf 33 rfl) (md 33 rfl), defOk_of cd (mf 34 rfl) (md 34 rfl), defOk_of cd (mf 35 rfl) (md 35 rfl), defOk_of cd (mf 36 rfl) (md 36 rfl), defOk_of cd (mf 37 rfl) (md 37 rfl), defOk_of cd (mf 38 rfl) (md 38 rfl), defOk_of cd (mf 39 rfl) (md 39 rfl), defOk_of cd (mf 40 rfl) (md 40 rfl), defOk_of cd (mf 41 rfl) (md 41 rfl), defOk_of cd (mf 42 rfl) (md 42 rfl), defOk_of cd (mf 43 rfl) (md 43 rfl), defOk_of cd (mf 44 rfl) (md 44 rfl), defOk_of cd (mf 45 rfl) (md 45 rfl), defOk_of cd (mf 46 rfl) (md 46 rfl), defOk_of cd (mf 47 rfl) (md 47 rfl), defOk_of cd (mf 48 rfl) (md 48 rfl), defOk_of cd (mf 49 rfl) (md 49 rfl), defOk_of cd (mf 50 rfl) (md 50 rfl), defOk_of cd (mf 51 rfl) (md 51 rfl), defOk_of cd (mf 52 rfl) (md 52 rfl)⟩
  have Bt : BltOk K := ⟨free_at (cd.facts (mf 55 rfl)), free_at (cd.facts (mf 56 rfl)), free_at (cd.facts (mf 57 rfl)), free_at (cd.facts (mf 58 rfl)), free_at (cd.facts (mf 59 rfl)), free_at (cd.facts (mf 60 rfl)), free_at (cd.facts (mf 61 rfl)), free_at (cd.facts (mf 62 rfl)), free_at (cd.facts (mf 63 rfl)), free_at (cd.facts (mf 64 rfl)), free_at (cd.facts (mf 65 rfl)), free_at (cd.facts (mf 66 rfl)), free_at (cd.facts (mf 67 rfl)), free_at (cd.facts (mf 68 rfl)), free_at (cd.facts (mf 69 rfl)), free_at (cd.facts (mf 70 rfl)), free_at (cd.facts (mf 71 rfl)), free_at (cd.facts (mf 72 rfl)), free_at (cd.facts (mf 73 rfl))⟩
  have FO : FormOk K (He.ga K "Span") (He.ga K "Machine") (He.ga K "Groups") (He.ga K "Table") := ⟨cls_ok e9, cls_ok e10, cls_ok e11, cls_ok e12, methG_of cd (mf 74 rfl) (md 54 rfl), methG_of cd (mf 75 rfl) (md 55 rfl), methG_of cd (mf 76 rfl) (md 56 rfl), methG_of cd (mf 77 rfl) (md 57 rfl), methG_of cd (mf 78 rfl) (md 58 rfl), methG_of cd (mf 79 rfl) (md 59 rfl), methG_of cd (mf 80 rfl) (md 60 rfl), methG_of cd (mf 81 rfl) (md 61 rfl), methG_of cd (mf 82 rfl) (md 62 rfl), methG_of cd (mf 83 rfl) (md 63 rfl), methG_of cd (mf 84 rfl) (md 64 rfl)⟩
  exact look X G hfa D Bt (let_ok c.t (List.mem_of_getElem? (i := 0) rfl) e0) (bnd_ok c.t (List.mem_of_getElem? (i := 1) rfl) e1) (lim_ok e2) i3 (giv_ok c.t (List.mem_of_getElem? (i := 2) rfl) e4) nh1 nh2 (of_decide_eq_true e7) (of_decide_eq_true e8) FO (glo_at (cd.facts (mf 54 rfl))) (exc_ok e6) (defOk_of cd (mf 53 rfl) (md 53 rfl))
abbrev hRow : PySem.W.OpenRow := PySem.W.OpenLaw.row PySem.Challenge.rw_foldchains_k14_whole_known_forms
abbrev hHk : PySem.W.Hook := hookR 1000 hFa hFn hTs hTf hEx
def hOb (s : PySem.W.SharedT) : He.AlX := obsR 1000 hFa hFn hTs hTf hEx (HandSHeadRun.getT s)
theorem hOb_eq (s : PySem.W.SharedT) : hOb s = hHk.obs s.abs := obsR_eq (HandSHeadRun.getT_eq s)
def hLoose_0 : List Str := ["__name__",
  "ChainError",
  "InvalidChain",
  "MOST_STEPS",
  "LETTERS",
  "BOUNDS",
  "LIMITS",
  "is_chain",
  "check_chain",
  "is_whole",
  "is_step",
  "are_within",
  "keeps_limits",
  "only",
  "without_zeros",
  "divisor",
  "divided",
  "add_to",
  "combined",
  "shortened",
  "blended",
  "Span",
  "modulus_of",
  "free_anchors",
  "moves_told",
  "is_even",
  "goes_evenly",
  "Groups",
  "count_line",
  "alike"]
def hLoose_1 : List Str := ["firsts_found",
  "NOTHING_HELD",
  "give_line",
  "give_turn",
  "give_keep",
  "give_every",
  "give_twice",
  "give_sums",
  "give_anew",
  "give_gaps",
  "give_groups",
  "give_count",
  "GIVERS",
  "start",
  "advance",
  "pass_through",
  "moduli_of",
  "modulus_ahead",
  "split_state",
  "Machine",
  "told_rests",
  "spend_tests",
  "first_tests",
  "moves_by_group",
  "test_ahead",
  "refutes",
  "worth_of",
  "untied",
  "form",
  "Table"]
def hLoose_2 : List Str := ["with_fractions",
  "fraction",
  "_law_cell",
  "_law_drawn",
  "_law_roll",
  "_law_rounds"]
def hLoose : List Str := hLoose_0 ++ hLoose_1 ++ hLoose_2
theorem hRun0 (w : World) : HandSHeadRun.RunEqI hRow (PySem.W.view hRow.prog [0, 76]) hHk hOb 9000 hLoose (w.withFollow "special-get-raises" false) := by
  unfold HandSHeadRun.RunEqI
  kernel_rfl
theorem hRun1 (w : World) : HandSHeadRun.RunEqI hRow (PySem.W.view hRow.prog [0, 76]) hHk hOb 9000 hLoose (w.withFollow "special-get-raises" true) := by
  unfold HandSHeadRun.RunEqI
  kernel_rfl
theorem hRun (w : World) : HandSHeadRun.RunEqI hRow (PySem.W.view hRow.prog [0, 76]) hHk hOb 9000 hLoose w := PySem.W.byRow2 "special-get-raises" hRun0 hRun1 w
end FC
open PySem PySem.W PySem.Calls PyProof.Rows
set_option maxRecDepth 100000 in
set_option maxHeartbeats 0 in
theorem PySem.Challenge.cw_foldchains_k14_whole_known_forms_holds : PySem.Challenge.rw_foldchains_k14_whole_known_forms.Holds := by
  w_on; o_law
  refine HandSHeadRun.head_imp (r := OpenLaw.row PySem.Challenge.rw_foldchains_k14_whole_known_forms) (q := view (OpenLaw.row PySem.Challenge.rw_foldchains_k14_whole_known_forms).prog [0, 76]) (H := FC.hHk) (ob := FC.hOb) (M := 9000) (loose := FC.hLoose) (d := HandSHeadRun.topDef (OpenLaw.row PySem.Challenge.rw_foldchains_k14_whole_known_forms).prog 76) (kwd := []) FC.hOb_eq
    FC.hRun (by kernel_rfl) (by kernel_rfl) (by kernel_rfl) (by rfl) (by first | assumption | decide +kernel) (by decide +kernel) ⟨rfl, rfl, rfl, rfl, rfl, by decide +kernel⟩ ?hw ?hc
  case hw => w_witness2
  case hc =>
    refine LamX.walk_ofTsE (l := PySem.Challenge.rw_foldchains_k14_whole_known_forms) (n := 63) (k := 13) (x := "_law_script") (CX := fun _ => L2.CX0) rfl (by decide) (by kernel_rfl) ⟨rfl, by decide, by decide⟩ ?F (fun _ _ _ _ _ z => z)
    intro w mg fa h Y G hmg0
    obtain ⟨K, KX, c⟩ := Y
    have hmg : mg ("law" : PySem.Str) = some (.ref fa) := by
      have e : (HandSHeadRun.topDef (OpenLaw.row PySem.Challenge.rw_foldchains_k14_whole_known_forms).prog 76).name = ("law" : PySem.Str) := by kernel_rfl
      rw [← e]
      exact hmg0
    exact ⟨K, KX, FC.head_facts KX G hmg c⟩
