import PyProof.Rows.All
import Wide.All
import OpenK.AllK
import Wide.FinOn
import HandS.Iter
import HandS.Zip
import KE.GoesMore
import HandS.ForMost
import HandS.Exc
import HandS.TryMany
import HandS.ExcOwn
import HandS.WordsExc
import HandS.IsInst
import HandS.TupAny
import HandS.TupMul
import HandS.Small
import HandS.Walk
import HandS.Strs
import HandS.Flow
import HandS.DictComp
import HandS.SortInts
import HandS.TupLe
import HandS.Wide
import HandS.Gcd
import HandS.DictSub
import HandS.WideBits
import KE.KMathGC
import HandS.Dict
import PySem.Challenge.RW_keptlengths_k14_whole_sums_of_machines_b
set_option Elab.async false
set_option linter.all false
set_option maxRecDepth 100000
section
namespace KL
open PySem PySem.Spec PyProof.Rows L2
/-! ### enumerate over a tuple -/
set_option maxHeartbeats 1000000 in
theorem meets_enum1 {v : Value} {o : Obj} {H : Heap → Prop} (B : Begins v o H) :
    Meets (Builtin.«enumerate.__new__» ⟨[.type "enumerate", v], []⟩) (fun _ R s => H s.heap ∧
      R (.ok (.ret (.ref (s.heap.push o).objs.size))) { s with heap := (s.heap.push o).push { cls := .type "enumerate", data := .fields #[.none, .bool false, .ref s.heap.objs.size, rawInt 0, .none, .none] } }) :=
  .of_wp fun prog w A R s h => by
    obtain ⟨hp, g, d, tk, os⟩ := s; obtain ⟨h1, h⟩ := h
    have hsub := sub_enumerate
    have q1 : ∀ {A' : Around} {E : Value → Shared → Prop} {Q : Value → Shared → Prop}, Q (.ref hp.objs.size) ⟨hp.push o, g, d, tk, os⟩ → wpAny (model prog w) A' (pyIter v) Q E ⟨hp, g, d, tk, os⟩ :=
      fun q => B.iter prog w _ _ ⟨hp, g, d, tk, os⟩ _ h1 q
    wp_walk using q1
    refine wpAny_stack_any fun st => wpAny_pure ?_
    split
    · rename_i c _ _ _ _ _
      cases (c == Value.type "enumerate")
      · wp_walk using q1
        exact ⟨_, rfl, h⟩
      · wp_walk using q1
        exact ⟨_, rfl, h⟩
    · wp_walk using q1
      exact ⟨_, rfl, h⟩
section
variable {prog : Program} {w : World} {A : Around} {E : Value → Shared → Prop} {s : Shared}
theorem enum1 {v : Value} {o : Obj} {H : Heap → Prop} {Q : Value → Shared → Prop} (B : Begins v o H) (h1 : H s.heap)
    (h : ∀ h', IsEnum h' (s.heap.objs.size + 1) s.heap.objs.size 0 .none → h'.get? s.heap.objs.size = some o → h'.objs.size = s.heap.objs.size + 2 →
      (∀ b o, s.heap.get? b = some o → h'.get? b = some o) → Q (.ref (s.heap.objs.size + 1)) { s with heap := h' }) :
    wpAny (model prog w) A (call (.type "enumerate") [v]) Q E s := by
  refine callType_new F.called_enumerate (by decide) (F.typeCall_enumerate_1 _) (F.newCall_enumerate_1 _) (fun obj => F.args_object_init_2 obj _) F.entry_enumerate_new
    (meets_enum1 B) ⟨h1, ?_⟩
  have hz : (s.heap.push o).objs.size = s.heap.objs.size + 1 := Heap.size_push ..
  show _ ∧ _
  rw [hz]
  have he : IsEnum ((s.heap.push o).push { cls := .type "enumerate", data := .fields #[.none, .bool false, .ref s.heap.objs.size, rawInt 0, .none, .none] }) (s.heap.objs.size + 1) s.heap.objs.size 0 .none := by
    have := Heap.get?_push_size (s.heap.push o) (o := { cls := .type "enumerate", data := .fields #[.none, .bool false, .ref s.heap.objs.size, rawInt 0, .none, .none] }) rfl
    rw [hz] at this; exact this
  refine ⟨⟨_, he, rfl⟩, h _ he (Heap.get?_push_of_some _ (Heap.get?_push_size _ B.free)) (by rw [Heap.size_push, hz]) fun b o x => Heap.get?_push_of_some _ (Heap.get?_push_of_some _ x)⟩
end
/-- the tuple at a as it stands at each turn, each item in a new pair -/
def IteT (K : PySem.W.Frag) (a : Addr) : It :=
  ⟨fun i H => ∃ (xs : List V) (x : V), SqT K H a xs ∧ xs[i]? = some x, fun i H v H' => ∃ T x, v = .ref T ∧ H T = none ∧ H' = upd H T (.tup [.int (i : Nat), x]) ∧ ∀ xs, SqT K H a xs → xs[i]? = some x, fun i H => ∃ xs : List V, SqT K H a xs ∧ xs.length ≤ i⟩
theorem apart {h : Heap} {a it : Addr} {items : Array Value} {i : Nat} (p : h.IsTuple a items) (q : h.IsTupleIter it a i) : a ≠ it := fun e => by
  subst e
  obtain ⟨o, e1, c1, _⟩ := p
  obtain ⟨o2, e2, c2, _⟩ := q
  rw [e1] at e2
  cases e2
  rw [c1] at c2
  exact absurd c2 (by decide)
theorem apart2 {h : Heap} {a e it : Addr} {items : Array Value} {i : Int} {old : Value} (p : h.IsTuple a items) (q : IsEnum h e it i old) : e ≠ a := fun z => by
  subst z
  obtain ⟨o, e1, c1, _⟩ := p
  have q' : h.get? e = some _ := q
  rw [e1] at q'
  cases q'
  exact absurd (show Value.type "enumerate" = Value.type "tuple" from c1) (by decide)
theorem turn_enumT {P : Program} {w : World} {K : PySem.W.Frag} {elts : List Expr} {kk : Nat} {tpos : Pos} (a e it : Addr) :
    Turn P w K (.Tuple elts kk tpos) (IteT K a) [e, it] e (fun i h => (∃ old, IsEnum h e it ((i : Nat) : Int) old) ∧ h.IsTupleIter it a i ∧ e ≠ it) where
  mem := by simp
  obj := fun i h st b hb => by
    obtain ⟨⟨old, he⟩, ⟨o, ho, hc, hd⟩, _⟩ := st
    have e' : b = e ∨ b = it := by simpa using hb
    rcases e' with z | z
    · rw [z]; exact ⟨_, he, fun v q => nomatch q⟩
    · rw [z]; exact ⟨o, ho, fun v q => by rw [hd] at q; cases q⟩
  keep := fun i h h' st k => let ⟨⟨old, he⟩, hi, hne⟩ := st; ⟨⟨old, k e (by simp) _ he⟩, hi.at fun o q => k it (by simp) o q, hne⟩
  item := by
    intro X hP hw hK hc i pins s σ H E I hf st hg
    subst hP hw hK
    obtain ⟨⟨old, he⟩, hit, hne⟩ := st
    obtain ⟨xs, x, hq, hx⟩ := hg
    obtain ⟨its, rv, p, hz⟩ := I.tuple hq
    obtain ⟨u, hu, ru⟩ := rv.get hx
    have p' : s.heap.IsTuple a its.toArray := p
    have hel : e < s.heap.objs.size := Heap.lt_size he
    have hil : it < s.heap.objs.size := by obtain ⟨_, q, _⟩ := hit; exact Heap.lt_size q
    have nai := apart p' hit
    have nae := apart2 p' he
    have D := Draws.tuple (prog := X.prog) (w := X.w) (A := X.A.in1) (I.ok.hd hc) it a nai its.toArray
    have hlt : i < its.toArray.size := by
      have := (List.getElem?_eq_some_iff.mp hu).1
      simpa using this
    refine wpAny_pyNext_enum_itemD D he ⟨hit, p'⟩ hlt hne (by simp only [List.mem_cons, List.not_mem_nil, or_false, not_or]; exact ⟨hne, nae⟩) fun x' h' tk hx' ho hst' hT hsz hk => ?_
    have ex : x' = u := by
      have hu' : its.toArray[i]? = some u := by simpa using hu
      rw [hu'] at hx'
      exact (Option.some.inj hx').symm
    subst ex
    refine ⟨_, rfl, wpAny_letOwnedTupleGo_enum (s := { s with heap := h', toks := tk + 1 }) ho fun h'' he' sb => ?_⟩
    have hT2 : h''.get? s.heap.objs.size = some { cls := .type "tuple", data := .seq #[.int i tk, x'] } := (sb.2 _ (Nat.ne_of_gt hel)).trans hT
    have new : ObjOk X.prog X.w (upd H s.heap.objs.size (.tup [.int (i : Nat), x])) h'' s.heap.objs.size (.tup [.int (i : Nat), x]) :=
      ⟨by show 2 ≤ sizeLine; decide, [.int i tk, x'], .cons ⟨_, rfl⟩ (.cons ru .nil), ⟨_, hT2, rfl, _, rfl⟩⟩
    have I1 : Inv X pins σ (upd H s.heap.objs.size (.tup [.int (i : Nat), x])) { s with heap := h'', toks := tk + 1 } :=
      I.turnedNew (ch := [e, it]) (fun b ob hb q => (sb.2 b (fun z => hb (by simp [z]))).trans (hk b ob (fun z => hb (by simp [z])) (fun z => hb (by simp [z])) q)) hf (Nat.le_refl _) new
    refine ⟨.ref s.heap.objs.size, _, I1, rfl, ⟨_, x, rfl, I.hok.fresh (Nat.le_refl _), rfl, fun ys hy => by rw [I.tuple_inj hy hq]; exact hx⟩, ⟨⟨x', ?_⟩, hst'.1.at fun o q => (sb.2 it (Ne.symm hne)).trans q, hne⟩, fun b hb => ?_⟩
    · have e1 : ((i + 1 : Nat) : Int) = (i : Int) + 1 := by omega
      rw [e1]; exact he'
    · have hb' : b < s.heap.objs.size := by
        have e' : b = e ∨ b = it := by simpa using hb
        rcases e' with z | z
        · rw [z]; exact hel
        · rw [z]; exact hil
      rw [upd_ne (Nat.ne_of_lt hb')]
      exact (hf b hb).1
  done := by
    intro X hP hw hK hc i pins s σ H E I hf st hg
    subst hP hw hK
    obtain ⟨⟨old, he⟩, hit, hne⟩ := st
    obtain ⟨xs, hq, hx⟩ := hg
    obtain ⟨its, rv, p, hz⟩ := I.tuple hq
    obtain ⟨f0, f1, f2, f3, f4, f5⟩ := hf it (by simp)
    have hl := rv.length
    have hT : s.TypeIs (.ref e) "enumerate" := ⟨_, he, rfl⟩
    unfold pyNext
    refine wpAny_bind (wpAny_attempt (wpAny_callSpecial?_slot (name := Str.ofString "__next__") hT F.slot_enumerate_next
      (wpAny_call_entry F.slot_enumerate_next hT F.entry_enumerate_next ?_ (F.args_enumerate_next_1 _))))
    show wpAny _ _ (field (.ref e) 2 >>= _) _ _ _
    refine wpAny_bind (wpAny_field he rfl (x := .ref it) rfl ?_)
    refine wpAny_bind (wpAny_nextOf_tuple_end (I.ok.hd hc) hit (show s.heap.IsTuple a its.toArray from p) (by simp; omega) fun h' x eb hx' => ?_)
    obtain ⟨o, ho, hcl⟩ := hx'
    refine wpAny_bind (wpAny_isInstance (T := "StopIteration") (b := true) ⟨o, ho, hcl⟩ isSubtype_stop ?_)
    exact wpAny_pure ⟨rfl, I.turned (t' := s.toks) (fun b o hb q => eb b o hb q) f0 f1 f3 f4 f5⟩
  self := fun A i s Q E st h => let ⟨⟨_, he⟩, _⟩ := st; wpAny_pyIter_enum he h
def iEnumT (K : PySem.W.Frag) (ta : TA) : TI := fun σ H R => ta σ H fun vs H1 => ∃ a xs, vs = [.ref a] ∧ SqT K H1 a xs ∧ R (IteT K a) H1
theorem pi_enumT {X : Cx} {e : Expr} {ta : TA} {p pos tpos : Pos} {elts : List Expr} {kk : Nat} (hg : Gl X "enumerate") (hm : X.mg "enumerate" = none) (ha : PA X [e] ta) (hs : starEach [e] X.env = [(false, eval e X.env)] := by rfl) :
    PI X (.Tuple elts kk tpos) (.Call (.Name "enumerate" p) [e] [] pos) (iEnumT X.K ta) := by
  refine ⟨fun pins s σ H R I h => ?_⟩
  refine Call_ (ld_blt I hg hm boot_enumerate (PyProof.Rows.callWith_type1 (thn (ha.run pos pins s σ H _ I h) fun us s1 ⟨vs, H1, I1, r1, q1⟩ => ?_) hs rfl))
  obtain ⟨a, xs, ex, hq, q⟩ := q1
  subst ex
  cases r1 with
  | cons r rr =>
    cases rr
    cases r
    obtain ⟨its, rv, p', hz⟩ := I1.tuple hq
    refine enum1 (begins_tuple a its.toArray) (show s1.heap.IsTuple a its.toArray from p') fun h' he hit hsz hk => wpAny_pyIter_enum he ?_
    have I2 : Inv X pins σ H1 { s1 with heap := h' } := I1.kept (t' := s1.toks) hk
    refine ⟨s1.heap.objs.size + 1, [s1.heap.objs.size + 1, s1.heap.objs.size], _, _, H1, rfl, I2, turn_enumT a (s1.heap.objs.size + 1) s1.heap.objs.size, ⟨⟨.none, he⟩, ⟨_, hit, rfl, rfl⟩, Nat.succ_ne_self _⟩, fun b hb => ?_, q⟩
    have e' : b = s1.heap.objs.size + 1 ∨ b = s1.heap.objs.size := by simpa using hb
    have hle : s1.heap.objs.size ≤ b := by
      rcases e' with z | z
      · rw [z]; exact Nat.le_add_right _ _
      · rw [z]; exact Nat.le_refl _
    exact I1.fpOk hle (I1.hok.fresh hle)
end KL
end
section
namespace KL
/-! ### graphs -/
/-- what is reached from the starts by the ways -/
inductive RS (ways : List (List Nat)) (starts : List Nat) : Nat → Prop
  | base {s : Nat} : s ∈ starts → RS ways starts s
  | step {i t : Nat} : RS ways starts i → t ∈ (ways[i]?).getD [] → RS ways starts t
def cnt : List Bool → Nat
  | [] => 0
  | b :: r => (if b = true then 0 else 1) + cnt r
theorem cnt_le : ∀ fl : List Bool, cnt fl ≤ fl.length
  | [] => Nat.le_refl _
  | b :: r => by
    have := cnt_le r
    rw [cnt, List.length_cons]
    split <;> omega
theorem cnt_set : ∀ {fl : List Bool} {t : Nat}, fl[t]? = some false → cnt (fl.set t true) + 1 = cnt fl
  | [], t, h => by simp at h
  | b :: r, 0, h => by
    simp at h
    subst h
    simp [cnt]
    omega
  | b :: r, t + 1, h => by
    have h' : r[t]? = some false := by simpa using h
    have := cnt_set h'
    rw [List.set_cons_succ, cnt, cnt]
    omega
theorem set_get {fl : List Bool} {t i : Nat} (h : fl[i]? = some true) : (fl.set t true)[i]? = some true := by
  have hi := (List.getElem?_eq_some_iff.mp h).1
  rw [List.getElem?_set]
  split
  · next e =>
    subst e
    rw [if_pos hi]
  · exact h
theorem set_new {fl : List Bool} {t : Nat} (h : t < fl.length) : (fl.set t true)[t]? = some true := by
  rw [List.getElem?_set_self h]
theorem set_back {fl : List Bool} {t i : Nat} (h : (fl.set t true)[i]? = some true) : i = t ∨ fl[i]? = some true := by
  by_cases e : t = i
  · exact .inl e.symm
  · rw [List.getElem?_set_ne e] at h
    exact .inr h
structure SI (ways : List (List Nat)) (starts : List Nat) (fl : List Bool) (wt : List Nat) : Prop where
  len : fl.length = ways.length
  st : ∀ s ∈ starts, fl[s]? = some true
  wtf : ∀ s ∈ wt, fl[s]? = some true
  sound : ∀ i : Nat, fl[i]? = some true → RS ways starts i
  clo : ∀ i : Nat, fl[i]? = some true → i ∈ wt ∨ ∀ t ∈ (ways[i]?).getD [], fl[t]? = some true
structure SJ (ways : List (List Nat)) (starts : List Nat) (a j : Nat) (fl : List Bool) (wt : List Nat) : Prop where
  len : fl.length = ways.length
  st : ∀ s ∈ starts, fl[s]? = some true
  wtf : ∀ s ∈ wt, fl[s]? = some true
  sound : ∀ i : Nat, fl[i]? = some true → RS ways starts i
  rat : fl[a]? = some true
  clo : ∀ i : Nat, fl[i]? = some true → i ∈ wt ∨ i = a ∨ ∀ t ∈ (ways[i]?).getD [], fl[t]? = some true
  dn : ∀ t ∈ ((ways[a]?).getD []).take j, fl[t]? = some true
section
variable {ways : List (List Nat)} {starts : List Nat} {fl : List Bool} {wt ys : List Nat} {a j t : Nat}
theorem SI.pop (h : SI ways starts fl (ys ++ [a])) : SJ ways starts a 0 fl ys where
  len := h.len
  st := h.st
  wtf := fun s m => h.wtf s (List.mem_append_left _ m)
  sound := h.sound
  rat := h.wtf a (by simp)
  clo := fun i e => by
    rcases h.clo i e with m | q
    · rcases List.mem_append.mp m with m | m
      · exact .inl m
      · exact .inr (.inl (by simpa using m))
    · exact .inr (.inr q)
  dn := fun t m => by simp at m
theorem take_succ' {l : List Nat} (h : l[j]? = some t) {P : Nat → Prop} (hp : ∀ x ∈ l.take j, P x) (ht : P t) : ∀ x ∈ l.take (j + 1), P x := fun x m => by
  rw [List.take_add_one, h] at m
  rcases List.mem_append.mp m with m | m
  · exact hp x m
  · have e : x = t := by simpa using m
    rw [e]; exact ht
theorem SJ.skip (h : SJ ways starts a j fl wt) (ht : ((ways[a]?).getD [])[j]? = some t) (hf : fl[t]? = some true) : SJ ways starts a (j + 1) fl wt where
  len := h.len
  st := h.st
  wtf := h.wtf
  sound := h.sound
  rat := h.rat
  clo := h.clo
  dn := take_succ' ht h.dn hf
theorem SJ.set (h : SJ ways starts a j fl wt) (ht : ((ways[a]?).getD [])[j]? = some t) (hf : fl[t]? = some false) : SJ ways starts a (j + 1) (fl.set t true) (wt ++ [t]) where
  len := by rw [List.length_set]; exact h.len
  st := fun s m => set_get (h.st s m)
  wtf := fun s m => by
    rcases List.mem_append.mp m with m | m
    · exact set_get (h.wtf s m)
    · have e : s = t := by simpa using m
      rw [e]; exact set_new (List.getElem?_eq_some_iff.mp hf).1
  sound := fun i e => by
    rcases set_back e with rfl | e
    · exact .step (h.sound a h.rat) (List.mem_of_getElem? ht)
    · exact h.sound i e
  rat := set_get h.rat
  clo := fun i e => by
    rcases set_back e with rfl | e
    · exact .inl (by simp)
    · rcases h.clo i e with m | q | q
      · exact .inl (List.mem_append_left _ m)
      · exact .inr (.inl q)
      · exact .inr (.inr fun t m => set_get (q t m))
  dn := take_succ' ht (fun x m => set_get (h.dn x m)) (set_new (List.getElem?_eq_some_iff.mp hf).1)
theorem SJ.done (h : SJ ways starts a ((ways[a]?).getD []).length fl wt) : SI ways starts fl wt where
  len := h.len
  st := h.st
  wtf := h.wtf
  sound := h.sound
  clo := fun i e => by
    rcases h.clo i e with m | rfl | q
    · exact .inl m
    · exact .inr fun t m => h.dn t (by rw [List.take_length]; exact m)
    · exact .inr q
theorem SI.fin (h : SI ways starts fl []) (i : Nat) : fl[i]? = some true ↔ RS ways starts i := by
  refine ⟨h.sound i, fun r => ?_⟩
  induction r with
  | base m => exact h.st _ m
  | step r m ih =>
    rcases h.clo _ ih with q | q
    · cases q
    · exact q _ m
/-- the starts flagged -/
structure SK (n : Nat) (done : List Nat) (fl : List Bool) : Prop where
  len : fl.length = n
  iff : ∀ i : Nat, fl[i]? = some true ↔ i ∈ done
theorem SK.zero (n : Nat) : SK n [] (List.replicate n false) where
  len := List.length_replicate
  iff := fun i => by
    rw [List.getElem?_replicate]
    split <;> simp
theorem SK.add {n : Nat} {dn : List Nat} (h : SK n dn fl) (ht : t < n) : SK n (dn ++ [t]) (fl.set t true) where
  len := by rw [List.length_set]; exact h.len
  iff := fun i => by
    constructor
    · intro e
      rcases set_back e with rfl | e
      · simp
      · exact List.mem_append_left _ ((h.iff i).mp e)
    · intro m
      rcases List.mem_append.mp m with m | m
      · exact set_get ((h.iff i).mpr m)
      · have e : i = t := by simpa using m
        rw [e]; exact set_new (by rw [h.len]; exact ht)
theorem SK.si (h : SK ways.length starts fl) : SI ways starts fl starts where
  len := h.len
  st := fun s m => (h.iff s).mpr m
  wtf := fun s m => (h.iff s).mpr m
  sound := fun i e => .base ((h.iff i).mp e)
  clo := fun i e => .inl ((h.iff i).mp e)
theorem RS.lt (wf : ∀ (i : Nat) (ws : List Nat), ways[i]? = some ws → ∀ t ∈ ws, t < ways.length) (hs : ∀ s ∈ starts, s < ways.length) {i : Nat} (r : RS ways starts i) : i < ways.length := by
  induction r with
  | base m => exact hs _ m
  | step r m ih =>
    have e := List.getElem?_eq_getElem ih
    rw [e] at m
    exact wf _ _ e _ m
end
end KL
end
section
namespace KL
open PySem PySem.Spec PyProof.Rows L2

/-! ### heaps: all that stands elsewhere than at Z stands still -/
abbrev Zone := Addr → Prop
def SB (Z : Zone) (H H' : Hp) : Prop := ∀ b o, ¬ Z b → H b = some o → H' b = some o
/-- what is tracked -/
def Trk (H : Hp) : Zone := fun a => H a ≠ none
theorem SB.rfl' {Z : Zone} {H : Hp} : SB Z H H := fun _ _ _ h => h
theorem SB.trans {Z : Zone} {H H1 H2 : Hp} (a : SB Z H H1) (b : SB Z H1 H2) : SB Z H H2 := fun c o n h => b c o n (a c o n h)
theorem SB.of {Z : Zone} {H H' : Hp} (a : Same H H') : SB Z H H' := fun b o _ h => a b o h
theorem SB.mono {Z Z' : Zone} {H H' : Hp} (a : SB Z H H') (h : ∀ b, Z b → Z' b) : SB Z' H H' := fun b o n q => a b o (fun z => n (h b z)) q
theorem same_new {H : Hp} {p : Addr} (h : H p = none) (o : HO) : Same H (upd H p o) := fun b u q => by rw [upd_ne (ne_of_none q h)]; exact q
theorem SB.new {Z : Zone} {H : Hp} {p : Addr} (h : H p = none) (o : HO) : SB Z H (upd H p o) := .of (same_new h o)
theorem SB.self {Z : Zone} {H : Hp} {W : Addr} (z : Z W) (o : HO) : SB Z H (upd H W o) := fun b u n q => by
  rw [upd_ne (fun e : b = W => n (by rw [e]; exact z))]; exact q
abbrev At1 (W : Addr) : Zone := fun a => a = W
theorem SB.selfW {H : Hp} {W : Addr} (o : HO) : SB (At1 W) H (upd H W o) := .self (Z := At1 W) rfl o
/-- what was new in between may be written -/
theorem SB.upd_new {Z : Zone} {p : Addr} {H H1 : Hp} (a : SB Z H H1) (h : H p = none) (o : HO) : SB Z H (upd H1 p o) := fun b u n q => by
  rw [upd_ne (ne_of_none q h)]; exact a b u n q
theorem Same.upd_new {p : Addr} {H H1 : Hp} (a : Same H H1) (h : H p = none) (o : HO) : Same H (upd H1 p o) := fun b u q => by
  rw [upd_ne (ne_of_none q h)]; exact a b u q
theorem Trk.same {H H' : Hp} (s : Same H H') {a : Addr} (h : Trk H a) : Trk H' a := fun e => by
  cases q : H a with
  | none => exact h q
  | some o => rw [s a o q] at e; cases e
theorem Trk.of {H : Hp} {a : Addr} {o : HO} (h : H a = some o) : Trk H a := fun e => by rw [e] at h; cases h
theorem Trk.not {H : Hp} {a : Addr} (h : H a = none) : ¬ Trk H a := fun e => e h

/-! ### the things of the law -/
inductive Th where
  | non | bl (b : Bool) | int (i : Int) | str (x : Str) | lst (xs : List Th) | tup (xs : List Th) | dic (xs : List Th)
mutual
/-- in the heap H the value v is the thing; nothing of it stands in Z -/
def At (Z : Zone) (H : Hp) : Th → V → Prop
  | .non, v => v = .non
  | .bl b, v => v = .bl b
  | .int i, v => v = .int i
  | .str x, v => v = .str x
  | .lst xs, v => ∃ a vs, v = .ref a ∧ ¬ Z a ∧ H a = some (.lst vs) ∧ AtAll Z H xs vs
  | .tup xs, v => ∃ a vs, v = .ref a ∧ ¬ Z a ∧ H a = some (.tup vs) ∧ AtAll Z H xs vs
  | .dic xs, v => ∃ a l vs, v = .ref a ∧ ¬ Z a ∧ ¬ Z l ∧ H a = some (.dK [(Sum.inr "a", .ref l), (Sum.inl 1, .non)]) ∧ H l = some (.lst vs) ∧ AtAll Z H xs vs
def AtAll (Z : Zone) (H : Hp) : List Th → List V → Prop
  | [], vs => vs = []
  | x :: xs, vs => ∃ u us, vs = u :: us ∧ At Z H x u ∧ AtAll Z H xs us
end
mutual
theorem At.step {Z Z' : Zone} {H H' : Hp} (s : SB Z H H') (z : ∀ a, ¬ Z a → Trk H a → ¬ Z' a) : ∀ {d : Th} {v : V}, At Z H d v → At Z' H' d v
  | .non, _, h => h
  | .bl _, _, h => h
  | .int _, _, h => h
  | .str _, _, h => h
  | .lst _, _, ⟨a, vs, e, n, h, t⟩ => ⟨a, vs, e, z a n (.of h), s _ _ n h, AtAll.step s z t⟩
  | .tup _, _, ⟨a, vs, e, n, h, t⟩ => ⟨a, vs, e, z a n (.of h), s _ _ n h, AtAll.step s z t⟩
  | .dic _, _, ⟨a, l, vs, e, n, m, h, g, t⟩ => ⟨a, l, vs, e, z a n (.of h), z l m (.of g), s _ _ n h, s _ _ m g, AtAll.step s z t⟩
theorem AtAll.step {Z Z' : Zone} {H H' : Hp} (s : SB Z H H') (z : ∀ a, ¬ Z a → Trk H a → ¬ Z' a) : ∀ {ds : List Th} {vs : List V}, AtAll Z H ds vs → AtAll Z' H' ds vs
  | [], _, h => h
  | _ :: _, _, ⟨u, us, e, h, t⟩ => ⟨u, us, e, At.step s z h, AtAll.step s z t⟩
end
theorem At.sb {Z : Zone} {H H' : Hp} (s : SB Z H H') {d : Th} {v : V} (h : At Z H d v) : At Z H' d v := h.step s fun _ n _ => n
theorem AtAll.sb {Z : Zone} {H H' : Hp} (s : SB Z H H') {d : List Th} {v : List V} (h : AtAll Z H d v) : AtAll Z H' d v := h.step s fun _ n _ => n
theorem At.same {Z : Zone} {H H' : Hp} (s : Same H H') {d : Th} {v : V} (h : At Z H d v) : At Z H' d v := h.sb (.of s)
theorem AtAll.same {Z : Zone} {H H' : Hp} (s : Same H H') {d : List Th} {v : List V} (h : AtAll Z H d v) : AtAll Z H' d v := h.sb (.of s)
theorem At.less {Z Z' : Zone} {H : Hp} (z : ∀ a, Z' a → Z a) {d : Th} {v : V} (h : At Z H d v) : At Z' H d v := h.step .rfl' fun a n _ m => n (z a m)
theorem AtAll.less {Z Z' : Zone} {H : Hp} (z : ∀ a, Z' a → Z a) {d : List Th} {v : List V} (h : AtAll Z H d v) : AtAll Z' H d v := h.step .rfl' fun a n _ m => n (z a m)
theorem AtAll.len {Z : Zone} {H : Hp} : ∀ {ds : List Th} {vs : List V}, AtAll Z H ds vs → vs.length = ds.length
  | [], _, h => by rw [show _ = [] from h]; rfl
  | _ :: _, _, ⟨u, us, e, _, t⟩ => by rw [e, List.length_cons, List.length_cons, t.len]
theorem AtAll.get {Z : Zone} {H : Hp} : ∀ {ds : List Th} {vs : List V} {i : Nat} {v : V}, AtAll Z H ds vs → vs[i]? = some v → ∃ d, ds[i]? = some d ∧ At Z H d v
  | [], _, _, _, h, e => by rw [show _ = [] from h] at e; simp at e
  | d :: _, _, 0, v, ⟨u, us, e, h, _⟩, q => by rw [e] at q; simp at q; subst q; exact ⟨d, rfl, h⟩
  | _ :: ds, _, i + 1, v, ⟨u, us, e, _, t⟩, q => by
    rw [e] at q
    obtain ⟨d, e1, h1⟩ := AtAll.get (i := i) t (by simpa using q)
    exact ⟨d, by simpa using e1, h1⟩
theorem AtAll.at {Z : Zone} {H : Hp} {ds : List Th} {vs : List V} {i : Nat} {d : Th} (h : AtAll Z H ds vs) (e : ds[i]? = some d) : ∃ v, vs[i]? = some v ∧ At Z H d v := by
  have hi : i < vs.length := by rw [h.len]; exact (List.getElem?_eq_some_iff.mp e).1
  obtain ⟨d', e1, h1⟩ := h.get (List.getElem?_eq_getElem hi)
  rw [e] at e1; cases e1
  exact ⟨_, List.getElem?_eq_getElem hi, h1⟩
theorem AtAll.nil {Z : Zone} {H : Hp} : AtAll Z H [] [] := rfl
theorem AtAll.cons {Z : Zone} {H : Hp} {d : Th} {ds : List Th} {v : V} {vs : List V} (h : At Z H d v) (t : AtAll Z H ds vs) : AtAll Z H (d :: ds) (v :: vs) := ⟨v, vs, rfl, h, t⟩
theorem AtAll.append {Z : Zone} {H : Hp} : ∀ {ds es : List Th} {vs us : List V}, AtAll Z H ds vs → AtAll Z H es us → AtAll Z H (ds ++ es) (vs ++ us)
  | [], _, _, _, h, t => by rw [show _ = [] from h]; exact t
  | _ :: _, _, _, _, ⟨u, us, e, h, t⟩, g => by subst e; exact ⟨u, _, rfl, h, t.append g⟩
theorem AtAll.take {Z : Zone} {H : Hp} : ∀ {ds : List Th} {vs : List V} (n : Nat), AtAll Z H ds vs → AtAll Z H (ds.take n) (vs.take n)
  | _, _, 0, _ => by rw [List.take_zero, List.take_zero]; exact .nil
  | [], _, n + 1, h => by rw [show _ = [] from h]; exact .nil
  | _ :: _, _, n + 1, ⟨u, us, e, h, t⟩ => by subst e; exact .cons h (t.take n)
theorem AtAll.drop {Z : Zone} {H : Hp} : ∀ {ds : List Th} {vs : List V} (n : Nat), AtAll Z H ds vs → AtAll Z H (ds.drop n) (vs.drop n)
  | _, _, 0, h => h
  | [], _, n + 1, h => by rw [show _ = [] from h]; exact .nil
  | _ :: _, _, n + 1, ⟨u, us, e, h, t⟩ => by subst e; exact t.drop n

/-! ### types -/
def ty : Th → String
  | .non => "NoneType" | .bl _ => "bool" | .int _ => "int" | .str _ => "str" | .lst _ => "list" | .tup _ => "tuple" | .dic _ => "dict"
def isI : Th → Bool
  | .int _ => true | .bl _ => true | _ => false
def isB : Th → Bool
  | .bl _ => true | _ => false
def isS : Th → Bool
  | .str _ => true | _ => false
def isT : Th → Bool
  | .tup _ => true | _ => false
theorem kitI : ∀ d : Th, kitB (ty d) "int" = some (isI d)
  | .non => (by decide +kernel : kitB "NoneType" "int" = some false)
  | .bl _ => (by decide +kernel : kitB "bool" "int" = some true)
  | .int _ => (by decide +kernel : kitB "int" "int" = some true)
  | .str _ => (by decide +kernel : kitB "str" "int" = some false)
  | .lst _ => (by decide +kernel : kitB "list" "int" = some false)
  | .tup _ => (by decide +kernel : kitB "tuple" "int" = some false)
  | .dic _ => (by decide +kernel : kitB "dict" "int" = some false)
theorem kitBo : ∀ d : Th, kitB (ty d) "bool" = some (isB d)
  | .non => (by decide +kernel : kitB "NoneType" "bool" = some false)
  | .bl _ => (by decide +kernel : kitB "bool" "bool" = some true)
  | .int _ => (by decide +kernel : kitB "int" "bool" = some false)
  | .str _ => (by decide +kernel : kitB "str" "bool" = some false)
  | .lst _ => (by decide +kernel : kitB "list" "bool" = some false)
  | .tup _ => (by decide +kernel : kitB "tuple" "bool" = some false)
  | .dic _ => (by decide +kernel : kitB "dict" "bool" = some false)
theorem kitS : ∀ d : Th, kitB (ty d) "str" = some (isS d)
  | .non => (by decide +kernel : kitB "NoneType" "str" = some false)
  | .bl _ => (by decide +kernel : kitB "bool" "str" = some false)
  | .int _ => (by decide +kernel : kitB "int" "str" = some false)
  | .str _ => (by decide +kernel : kitB "str" "str" = some true)
  | .lst _ => (by decide +kernel : kitB "list" "str" = some false)
  | .tup _ => (by decide +kernel : kitB "tuple" "str" = some false)
  | .dic _ => (by decide +kernel : kitB "dict" "str" = some false)
theorem kitT : ∀ d : Th, kitB (ty d) "tuple" = some (isT d)
  | .non => (by decide +kernel : kitB "NoneType" "tuple" = some false)
  | .bl _ => (by decide +kernel : kitB "bool" "tuple" = some false)
  | .int _ => (by decide +kernel : kitB "int" "tuple" = some false)
  | .str _ => (by decide +kernel : kitB "str" "tuple" = some false)
  | .lst _ => (by decide +kernel : kitB "list" "tuple" = some false)
  | .tup _ => (by decide +kernel : kitB "tuple" "tuple" = some true)
  | .dic _ => (by decide +kernel : kitB "dict" "tuple" = some false)
theorem At.tyx {K : PySem.W.Frag} {Z : Zone} {H : Hp} {d : Th} {v : V} (h : At Z H d v) : TyX K H v (.type (ty d)) := by
  cases d with
  | non => cases h; exact .base .non
  | bl b => cases h; exact .base (.bl b)
  | int i => cases h; exact .base (.int i)
  | str x => cases h; exact .base (.str x)
  | lst xs => obtain ⟨a, vs, rfl, _, e, _⟩ := h; exact .base (.lst e)
  | tup xs => obtain ⟨a, vs, rfl, _, e, _⟩ := h; exact .base (.tup e)
  | dic xs => obtain ⟨a, l, vs, rfl, _, _, e, _⟩ := h; exact .base (.dK e)
theorem rd_isi {K : PySem.W.Frag} {Z : Zone} {H : Hp} {d : Th} {v : V} {T : String} {b : Bool} {Q : VK} (h : At Z H d v) (e : kitB (ty d) T = some b) (q : Q (.bl b) H) : rIsi K [v, .ty T] H Q :=
  ⟨v, .ty T, _, _, b, rfl, .ty T, h.tyx, kit_ty e, q⟩

theorem iteB {c : Bool} {A B : Prop} (h1 : c = true → A) (h0 : c = false → B) : if c = true then A else B := by
  cases c with
  | true => exact iteT (h1 rfl)
  | false => exact iteF (h0 rfl)
/-- if tc: t, then the rest r; the test's answer b0 is known ahead -/
theorem rd_ifs {tc : TT} {t r : TS} {D : Ends} {σ : L2.St} {H1 : Hp} (b0 : Bool) (h : ∀ Q : Bool → Hp → Prop, (∀ H2, Same H1 H2 → Q b0 H2) → tc σ H1 Q)
    (q1 : ∀ H2, Same H1 H2 → b0 = true → t { D with nx := r D } σ H2) (q0 : ∀ H2, Same H1 H2 → b0 = false → r D σ H2) : tSeq (tIfS tc t tNext) r D σ H1 :=
  h (fun b H2 => if b = true then t { D with nx := r D } σ H2 else tNext { D with nx := r D } σ H2) fun H2 s2 => iteB (q1 H2 s2) (q0 H2 s2)
/-- a first statement s, then the rest r: behind s the slots and the heap are as I tells -/
theorem rd_seq {a r : TS} {D : Ends} {σ : L2.St} {H : Hp} (I : L2.St → Hp → Prop) (h : ∀ N : L2.St → Hp → Prop, (∀ σ' H', I σ' H' → N σ' H') → a { D with nx := N } σ H) (q : ∀ σ' H', I σ' H' → r D σ' H') : tSeq a r D σ H := h (r D) q
theorem rd_ifz {tc : TT} {t r : TS} {D : Ends} {σ : L2.St} {H : Hp} (I : L2.St → Hp → Prop) (h : ∀ N : L2.St → Hp → Prop, (∀ σ' H', I σ' H' → N σ' H') → tIfS tc t tNext { D with nx := N } σ H) (q : ∀ σ' H', I σ' H' → r D σ' H') : tSeq (tIfS tc t tNext) r D σ H := h (r D) q
theorem rd_ifx {tc : TT} {t r : TS} {D : Ends} {σ : L2.St} {H : Hp} (I : Hp → Prop) (h : ∀ N : L2.St → Hp → Prop, (∀ H', I H' → N σ H') → tIfS tc t tNext { D with nx := N } σ H) (q : ∀ H', I H' → r D σ H') : tSeq (tIfS tc t tNext) r D σ H := h (r D) q
/-- a list of values told of a tuple's things -/
theorem lc_inV {K : PySem.W.Frag} {Z : Zone} {H : Hp} {a : Addr} {vs : List V} {ds : List Th} {g : Th → V} {i : Nat} {own : List Nat} {te : TE} {σ : L2.St} {Q : Addr → Hp → Prop}
    (hT : H a = some (.tup vs)) (hA : AtAll Z H ds vs) (hz : ds.length ≤ 1000000) (hw : ∀ x, wipe ((wipe σ own).set i (some x)) own = wipe σ own)
    (hs : ∀ x d H2, d ∈ ds → Same H H2 → At Z H2 d x → ∀ R : VK, (∀ H3, Same H2 H3 → R (g d) H3) → te ((wipe σ own).set i (some x)) H2 R)
    (hd : ∀ D H', Same H H' → H D = none → H' D = some (.lst (ds.map g)) → Q D H') :
    ∀ D, H D = none → ∃ W : Nat → Nat → Hp → Prop, (∃ m, W 0 m (upd H D (.lst []))) ∧ ∀ i' m H, W i' m H →
      ((Itt K a).stop i' H ∧ Q D H) ∨ ((Itt K a).go i' H ∧ ∃ Nx : Hp → Prop, (∀ H', Nx H' → ∃ m', m' < m ∧ W (i' + 1) m' H') ∧ ∀ x H', (Itt K a).yld i' H x H' → gName i x (wipe σ own) H' fun σ2 H2 => wipe σ2 own = wipe σ own ∧ tYes σ2 H2 fun b H3 =>
        if b = true then te σ2 H3 fun y H4 => ∃ acc, H4 D = some (.lst acc) ∧ acc.length < sizeLine ∧ Nx (upd H4 D (.lst (acc ++ [y]))) else Nx H3) := by
  intro D hD
  refine lc_tup (xs := vs) (fun j H' => Same H H' ∧ H' D = some (.lst ((ds.take j).map g))) ⟨same_new hD _, upd_same⟩ (fun j H' _ p => .of (p.1 _ _ hT)) (fun j x H' e p => ?_) (fun H' p => ?_)
  · obtain ⟨d, e1, hx⟩ := hA.get e
    have hj : j < ds.length := (List.getElem?_eq_some_iff.mp e1).1
    refine ⟨hw x, iteT (B := Same H H' ∧ H' D = some (.lst ((ds.take (j + 1)).map g))) (hs x d H' (List.mem_of_getElem? e1) p.1 (hx.same p.1) _ fun H3 s3 => ⟨_, s3 _ _ p.2, ?_, Same.upd_new (p.1.trans s3) hD _, ?_⟩)⟩
    · rw [List.length_map, List.length_take, sizeLine_eq]; omega
    · rw [upd_same, List.take_add_one, e1]; simp
  · refine hd D H' p.1 hD ?_
    rw [p.2, hA.len, List.take_length]

/-- a list of truths made over a tuple of things -/
theorem lc_bl {K : PySem.W.Frag} {Z : Zone} {H : Hp} {a : Addr} {vs : List V} {ds : List Th} {f : Th → Bool} {i : Nat} {own : List Nat} {te : TE} {σ : L2.St} {Q : Addr → Hp → Prop}
    (hT : H a = some (.tup vs)) (hA : AtAll Z H ds vs) (hz : ds.length ≤ 1000000) (hw : ∀ x, wipe ((wipe σ own).set i (some x)) own = wipe σ own)
    (hs : ∀ x d H2, d ∈ ds → Same H H2 → At Z H2 d x → ∀ R : VK, (∀ H3, Same H2 H3 → R (.bl (f d)) H3) → te ((wipe σ own).set i (some x)) H2 R)
    (hd : ∀ D H', Same H H' → H D = none → H' D = some (.lst ((ds.map f).map V.bl)) → Q D H') :
    ∀ D, H D = none → ∃ W : Nat → Nat → Hp → Prop, (∃ m, W 0 m (upd H D (.lst []))) ∧ ∀ i' m H, W i' m H →
      ((Itt K a).stop i' H ∧ Q D H) ∨ ((Itt K a).go i' H ∧ ∃ Nx : Hp → Prop, (∀ H', Nx H' → ∃ m', m' < m ∧ W (i' + 1) m' H') ∧ ∀ x H', (Itt K a).yld i' H x H' → gName i x (wipe σ own) H' fun σ2 H2 => wipe σ2 own = wipe σ own ∧ tYes σ2 H2 fun b H3 =>
        if b = true then te σ2 H3 fun y H4 => ∃ acc, H4 D = some (.lst acc) ∧ acc.length < sizeLine ∧ Nx (upd H4 D (.lst (acc ++ [y]))) else Nx H3) := by
  intro D hD
  refine lc_tup (xs := vs) (fun j H' => Same H H' ∧ H' D = some (.lst (((ds.take j).map f).map V.bl))) ⟨same_new hD _, upd_same⟩ (fun j H' _ p => .of (p.1 _ _ hT)) (fun j x H' e p => ?_) (fun H' p => ?_)
  · obtain ⟨d, e1, hx⟩ := hA.get e
    have hj : j < ds.length := (List.getElem?_eq_some_iff.mp e1).1
    refine ⟨hw x, iteT (B := Same H H' ∧ H' D = some (.lst (((ds.take (j + 1)).map f).map V.bl))) (hs x d H' (List.mem_of_getElem? e1) p.1 (hx.same p.1) _ fun H3 s3 => ⟨_, s3 _ _ p.2, ?_, Same.upd_new (p.1.trans s3) hD _, ?_⟩)⟩
    · rw [List.length_map, List.length_map, List.length_take, sizeLine_eq]; omega
    · rw [upd_same, List.take_add_one, e1]; simp
  · refine hd D H' p.1 hD ?_
    rw [p.2, hA.len, List.take_length]

/-- .. over a text -/
theorem lc_blS {H : Hp} {z : Str} {f : Nat → Bool} {i : Nat} {own : List Nat} {te : TE} {σ : L2.St} {Q : Addr → Hp → Prop}
    (hz : z.cps.size ≤ 1000000) (hw : ∀ x, wipe ((wipe σ own).set i (some x)) own = wipe σ own)
    (hs : ∀ c H2, Same H H2 → ∀ R : VK, (∀ H3, Same H2 H3 → R (.bl (f c)) H3) → te ((wipe σ own).set i (some (.str ⟨#[c]⟩))) H2 R)
    (hd : ∀ D H', Same H H' → H D = none → H' D = some (.lst ((z.cps.toList.map f).map V.bl)) → Q D H') :
    ∀ D, H D = none → ∃ W : Nat → Nat → Hp → Prop, (∃ m, W 0 m (upd H D (.lst []))) ∧ ∀ i' m H, W i' m H →
      ((Its z).stop i' H ∧ Q D H) ∨ ((Its z).go i' H ∧ ∃ Nx : Hp → Prop, (∀ H', Nx H' → ∃ m', m' < m ∧ W (i' + 1) m' H') ∧ ∀ x H', (Its z).yld i' H x H' → gName i x (wipe σ own) H' fun σ2 H2 => wipe σ2 own = wipe σ own ∧ tYes σ2 H2 fun b H3 =>
        if b = true then te σ2 H3 fun y H4 => ∃ acc, H4 D = some (.lst acc) ∧ acc.length < sizeLine ∧ Nx (upd H4 D (.lst (acc ++ [y]))) else Nx H3) := by
  intro D hD
  refine lc_it walk_str (fun j H' => Same H H' ∧ H' D = some (.lst (((z.cps.toList.take j).map f).map V.bl))) ⟨same_new hD _, upd_same⟩ (fun _ _ _ _ => trivial) (fun j x H1 H' hj p y => ?_) (fun H' p => ?_)
  · obtain ⟨rfl, c, e1, rfl⟩ := y
    have e2 : z.cps.toList[j]? = some c := by rw [Array.getElem?_toList]; exact e1
    refine ⟨hw _, iteT (B := Same H H' ∧ H' D = some (.lst (((z.cps.toList.take (j + 1)).map f).map V.bl))) (hs c H' p.1 _ fun H3 s3 => ⟨_, s3 _ _ p.2, ?_, Same.upd_new (p.1.trans s3) hD _, ?_⟩)⟩
    · rw [List.length_map, List.length_map, List.length_take, Array.length_toList, sizeLine_eq]; omega
    · rw [upd_same, List.take_add_one, e2]; simp
  · refine hd D H' p.1 hD ?_
    rw [p.2, ← Array.length_toList, List.take_length]

/-! ### defs and their promises -/
section
variable {P : Program} {w : World} {K : PySem.W.Frag} {mg : Str → Option Value} {base : Heap} {CX : CXT}
structure Def (K : PySem.W.Frag) (mg : Str → Option Value) (x : Str) (st : Stmt) (ps : List Str) : Prop where
  ex : ∃ f fd, Fun K x x st f fd ∧ mg x = some (.ref f) ∧ Binds K fd ps []
/-- what the module's name x holds keeps the promise sp -/
structure Cal (P : Program) (w : World) (K : PySem.W.Frag) (mg : Str → Option Value) (base : Heap) (CX : CXT) (k : Nat) (x : Str) (ps : List Str) (sp : Sp) : Prop where
  ex : ∃ f fd, FnOk P w K mg base CX k f fd ps sp ∧ mg x = some (.ref f) ∧ PySem.W.keepIn K (.ref f) = true ∧ Binds K fd ps []
theorem Cal.mono {j k : Nat} {x : Str} {ps : List Str} {sp : Sp} (c : Cal P w K mg base CX j x ps sp) (h : j ≤ k) : Cal P w K mg base CX k x ps sp :=
  let ⟨f, fd, a, b, c, d⟩ := c.ex; ⟨f, fd, a.mono h, b, c, d⟩
theorem Cal.imp {k : Nat} {x : Str} {ps : List Str} {sp sp' : Sp} (c : Cal P w K mg base CX k x ps sp) (h : ∀ vs H Q E, sp' vs H Q E → sp vs H Q E) : Cal P w K mg base CX k x ps sp' :=
  let ⟨f, fd, a, b, c, d⟩ := c.ex; ⟨f, fd, a.imp h, b, c, d⟩
/-- THE RULE for a def -/
theorem Def.ok {x : Str} {st : Stmt} {N ps : List Str} {k : Nat} {sp : Sp} (d : Def K mg x st ps) (S : FnScope N ps (defScope st)) (len : ∀ vs H Q E, sp vs H Q E → vs.length = ps.length)
    (body : ∀ (f : Addr) (cdv : Value) (A : Around) (outer : List Env) (s : Shared) (H : Hp) (vs : List V) (Q : VK) (E : XK), Room k (A.deeper (envOfC x (defScope st) s.heap.objs.size f cdv)) → sp vs H Q E →
      ∃ t, PSs (cxOf CX0 P w K mg base N x (defScope st) f cdv A outer s H E).nox (defBody st) t ∧ t { nx := fun _ H' => Q .non H', rt := Q } (start N vs) H) : Cal P w K mg base CX0 (k + 1) x ps sp := by
  obtain ⟨f, fd, F, m, b⟩ := d.ex
  exact ⟨f, fd, F.ok S len (body f), m, F.kp, b⟩
end
section
variable {X : Cx} {CX : CXT} {k : Nat} {x : Str} {ps : List Str} {sp : Sp} {e : Expr} {es : List Expr} {t : TA} {p pos : Pos}
theorem pe_cal (C : Cal X.prog X.w X.K X.mg X.base CX0 k x ps sp) (hr : Room k X.A) (hg : Gl X x) (ha : PA X (e :: es) t) (hdb : (x == ("__debug__" : Str)) = false := by decide)
    (he : starEach (e :: es) X.env = (false, eval e X.env) :: starEach es X.env := by rfl) (hpl : (backTo pos (starEach es X.env)).any (·.1) = false := by rfl) :
    PE X (.Call (.Name x p) (e :: es) [] pos) (tCall sp [] E0 t) :=
  let ⟨_, _, F, m, kp, b⟩ := C.ex
  pe_call F hr hg m kp b .nil pass0 ha hdb he hpl
end
/-- len of a list, a tuple -/
def rLenS (K : PySem.W.Frag) : List V → Hp → VK → Prop := fun xs H Q => ∃ p ys, xs = [V.ref p] ∧ (SqL K H p ys ∨ SqT K H p ys) ∧ Q (V.int ((ys.length : Nat) : Int)) H
/-- tuple of a list, a tuple -/
def rTupOf (K : PySem.W.Frag) : List V → Hp → VK → Prop := fun xs H Q => ∃ p ys, xs = [.ref p] ∧ ((SqL K H p ys ∧ ∀ l, H l = none → Q (.ref l) (upd H l (.tup ys))) ∨ (SqT K H p ys ∧ Q (.ref p) H))
/-- the built-ins' names are the built-ins' still -/
structure Zs (mg : Str → Option Value) : Prop where
  len : mg "len" = none
  isinstance : mg "isinstance" = none
  int : mg "int" = none
  bool : mg "bool" = none
  str : mg "str" = none
  tuple : mg "tuple" = none
  list : mg "list" = none
  range : mg "range" = none
  all : mg "all" = none
  sum : mg "sum" = none
  repr : mg "repr" = none
  enumerate : mg "enumerate" = none
  sorted : mg "sorted" = none
  any : mg "any" = none
  set : mg "set" = none
/-- the module's numbers -/
structure Ms (mg : Str → Option Value) (t1 t2 t3 : Tok) : Prop where
  MOST_LETTERS : mg "MOST_LETTERS" = some (.int 8 t1)
  MOST_STATES : mg "MOST_STATES" = some (.int 30 t2)
  MOST_BITS : mg "MOST_BITS" = some (.int 60 t3)
def topS (i : Nat) : Stmt := PySem.Challenge.pw_keptlengths_k14_whole_sums_of_machines_b.main.body.getD i (.Pass ⟨0, 0, 0, 0⟩)
end KL
end
section
namespace KL
open PySem PySem.Spec PyProof.Rows L2
/-! ### what the judges tell, as plain functions -/
def isNum (d : Th) : Bool := isI d && !isB d
def inn (lo hi : Int) : Th → Bool
  | .int i => decide (lo ≤ i) && decide (i ≤ hi)
  | _ => false
def isPair : Th → Bool
  | .tup xs => decide (xs.length = 2)
  | _ => false
def stepB (n : Int) : Th → Bool
  | .tup [a, b] => inn 0 60 a && inn 0 (n - 1) b
  | _ => false
def isNon : Th → Bool
  | .non => true
  | _ => false
def stepO (n : Int) (d : Th) : Bool := isNon d || stepB n d
def rowB (z n : Int) : Th → Bool
  | .tup [e, .tup ss] => (isNon e || inn 1 60 e) && decide ((ss.length : Int) = z) && ss.all (stepO n)
  | _ => false
def num : Th → Int
  | .int i => i
  | _ => 0
def machB : Th → Bool
  | .tup [z, .tup rows] => inn 1 8 z && decide (1 ≤ rows.length) && decide (rows.length ≤ 30) && rows.all (rowB (num z) (rows.length : Int))
  | _ => false
def textB (z : Int) : Th → Bool
  | .tup ls => ls.all (inn 0 (z - 1))
  | _ => false
/-! all tuples are short -/
mutual
def shortT : Th → Bool
  | .tup xs => decide (xs.length ≤ 1000000) && shortL xs
  | .str x => decide (x.cps.size ≤ 1000000)
  | _ => true
def shortL : List Th → Bool
  | [] => true
  | x :: xs => shortT x && shortL xs
end
theorem shortL_get : ∀ {xs : List Th} {i : Nat} {d : Th}, shortL xs = true → xs[i]? = some d → shortT d = true
  | [], _, _, _, e => by simp at e
  | x :: xs, 0, d, h, e => by
    rw [shortL, Bool.and_eq_true] at h
    simp at e; subst e; exact h.1
  | x :: xs, i + 1, d, h, e => by
    rw [shortL, Bool.and_eq_true] at h
    exact shortL_get h.2 (by simpa using e)
theorem shortL_mem {xs : List Th} {d : Th} (h : shortL xs = true) (m : d ∈ xs) : shortT d = true := by
  obtain ⟨i, e⟩ := List.mem_iff_getElem?.mp m
  exact shortL_get h e
/-- of a thing: what f tells -/
def spTh (f : Th → Bool) : Sp := fun vs H Q _ => ∃ Z v d, vs = [v] ∧ At Z H d v ∧ shortT d = true ∧ ∀ H', Same H H' → Q (.bl (f d)) H'
def spTh1 (f : Int → Th → Bool) : Sp := fun vs H Q _ => ∃ Z v d i, vs = [v, .int i] ∧ At Z H d v ∧ shortT d = true ∧ ∀ H', Same H H' → Q (.bl (f i d)) H'
def spTh2 (f : Int → Int → Th → Bool) : Sp := fun vs H Q _ => ∃ Z v d i j, vs = [v, .int i, .int j] ∧ At Z H d v ∧ shortT d = true ∧ ∀ H', Same H H' → Q (.bl (f i j d)) H'
abbrev sc_is_numberN : List Str := ["thing"]
abbrev s_is_number : Stmt := topS 5
theorem sc_is_number : FnScope ["thing"] ["thing"] (defScope s_is_number) := ⟨rfl, rfl, rfl, by decide +kernel, rfl, by decide +kernel, by decide +kernel⟩
abbrev sc_is_withinN : List Str := ["thing", "low", "high"]
abbrev s_is_within : Stmt := topS 6
theorem sc_is_within : FnScope ["thing", "low", "high"] ["thing", "low", "high"] (defScope s_is_within) := ⟨rfl, rfl, rfl, by decide +kernel, rfl, by decide +kernel, by decide +kernel⟩
abbrev sc_is_pairN : List Str := ["thing"]
abbrev s_is_pair : Stmt := topS 7
theorem sc_is_pair : FnScope ["thing"] ["thing"] (defScope s_is_pair) := ⟨rfl, rfl, rfl, by decide +kernel, rfl, by decide +kernel, by decide +kernel⟩
abbrev sc_is_sizeN : List Str := ["thing"]
abbrev s_is_size : Stmt := topS 14
theorem sc_is_size : FnScope ["thing"] ["thing"] (defScope s_is_size) := ⟨rfl, rfl, rfl, by decide +kernel, rfl, by decide +kernel, by decide +kernel⟩
abbrev sc_is_stepN : List Str := ["thing", "states", "more", "state"]
abbrev s_is_step : Stmt := topS 16
theorem sc_is_step : FnScope ["thing", "states", "more", "state"] ["thing", "states"] (defScope s_is_step) := ⟨rfl, rfl, rfl, by decide +kernel, rfl, by decide +kernel, by decide +kernel⟩
section
variable {P : Program} {w : World} {K : PySem.W.Frag} {mg : Str → Option Value} {base : Heap} {k : Nat}
theorem ok_is_number (Z : Zs mg) (d : Def K mg "is_number" s_is_number ["thing"]) : Cal P w K mg base CX0 (k + 1) "is_number" ["thing"] (spTh isNum) := by
  refine d.ok sc_is_number (fun vs H Q E h => ?_) (fun f cdv A outer s H vs Q E hr h => ?_)
  · obtain ⟨_, _, _, rfl, _⟩ := h; rfl
  obtain ⟨Zn, v, d, rfl, h, _, q⟩ := h
  refine ⟨_, (pss_one (ps_ret (pe_and (pe_callB (id := "isinstance") call_isi (by rfl) Z.isinstance (by decide +kernel) (pa_cons (pv 0) (pa_cons (pe_bltn (v := .ty "int") (by rfl) Z.int (by decide +kernel) rfl) pa_nil))) (pe_one (pe_not (pe_callB (id := "isinstance") call_isi (by rfl) Z.isinstance (by decide +kernel) (pa_cons (pv 0) (pa_cons (pe_bltn (v := .ty "bool") (by rfl) Z.bool (by decide +kernel) rfl) pa_nil)))))))), ?_⟩
  refine ⟨v, rfl, _, _, _, _, _, rfl, .ty _, (At.tyx (h)), kit_ty (kitI d), _, rfl, iteB (fun e => ?_) (fun e => ?_)⟩
  · refine ⟨v, rfl, _, _, _, _, _, rfl, .ty _, (At.tyx (h)), kit_ty (kitBo d), _, rfl, ?_⟩
    have q' := q H (Same.refl H)
    rw [isNum, e] at q'
    exact q'
  · have q' := q H (Same.refl H)
    rw [isNum, e] at q'
    exact q'
theorem isNum_int {d : Th} (h : isNum d = true) : ∃ i, d = .int i := by cases d <;> first | exact ⟨_, rfl⟩ | cases h
theorem ok_is_within (c_is_number : Cal P w K mg base CX0 k "is_number" ["thing"] (spTh isNum)) (d : Def K mg "is_within" s_is_within ["thing", "low", "high"]) : Cal P w K mg base CX0 (k + 1) "is_within" ["thing", "low", "high"] (spTh2 inn) := by
  refine d.ok sc_is_within (fun vs H Q E h => ?_) (fun f cdv A outer s H vs Q E hr h => ?_)
  · obtain ⟨_, _, _, _, _, rfl, _⟩ := h; rfl
  obtain ⟨Zn, v, d, lo, hi, rfl, h, sd, q⟩ := h
  refine ⟨_, (pss_one (ps_ret (pe_and (pe_cal c_is_number hr (by rfl) (pa_cons (pv 0) pa_nil)) (pe_one (pe_chain op_le op_le (pv 1) (pv 0) (pv 2)))))), ?_⟩
  refine ⟨v, rfl, Zn, v, d, rfl, h, sd, fun H1 s1 => ⟨_, rfl, iteB (fun e => ?_) (fun e => ?_)⟩⟩
  · obtain ⟨i, rfl⟩ := isNum_int e
    cases h
    refine ⟨_, rfl, _, rfl, _, _, rfl, rfl, _, rfl, iteB (fun e1 => ?_) (fun e1 => ?_)⟩
    · refine ⟨_, rfl, _, _, rfl, rfl, ?_⟩
      have q' := q H1 s1
      rw [inn, e1] at q'
      exact q'
    · have q' := q H1 s1
      rw [inn, e1] at q'
      exact q'
  · have q' := q H1 s1
    rw [show inn lo hi d = false by cases d <;> first | rfl | cases e] at q'
    exact q'
theorem isT_tup {d : Th} (h : isT d = true) : ∃ xs, d = .tup xs := by cases d <;> first | exact ⟨_, rfl⟩ | cases h
theorem ok_is_pair (Z : Zs mg) (d : Def K mg "is_pair" s_is_pair ["thing"]) : Cal P w K mg base CX0 (k + 1) "is_pair" ["thing"] (spTh isPair) := by
  refine d.ok sc_is_pair (fun vs H Q E h => ?_) (fun f cdv A outer s H vs Q E hr h => ?_)
  · obtain ⟨_, _, _, rfl, _⟩ := h; rfl
  obtain ⟨Zn, v, d, rfl, h, _, q⟩ := h
  refine ⟨_, (pss_one (ps_ret (pe_and (pe_callB (id := "isinstance") call_isi (by rfl) Z.isinstance (by decide +kernel) (pa_cons (pv 0) (pa_cons (pe_bltn (v := .ty "tuple") (by rfl) Z.tuple (by decide +kernel) rfl) pa_nil))) (pe_one (pe_cmpR op_eq (pe_callB (id := "len") call_len_seq (by rfl) Z.len (by decide +kernel) (pa_cons (pv 0) pa_nil)) pe_int (nomark _)))))), ?_⟩
  refine ⟨v, rfl, _, _, _, _, _, rfl, .ty _, (At.tyx (h)), kit_ty (kitT d), _, rfl, iteB (fun e => ?_) (fun e => ?_)⟩
  · obtain ⟨xs, rfl⟩ := isT_tup e
    obtain ⟨a, us, rfl, _, ea, ha⟩ := h
    refine ⟨_, rfl, a, us, rfl, .inr (.of ea), rfl, ?_⟩
    have q' := q H (Same.refl H)
    rw [isPair] at q'
    rw [ha.len, show decide (V.int ((xs.length : Nat) : Int) = V.int 2) = decide (xs.length = 2) from decide_eq_decide.mpr ⟨fun e => by injection e with e; omega, fun e => by rw [e]; rfl⟩]
    exact q'
  · have q' := q H (Same.refl H)
    rw [show isPair d = false by cases d <;> first | rfl | cases e] at q'
    exact q'
theorem ok_is_size {t1 t2 t3 : Tok} (M : Ms mg t1 t2 t3) (c_is_within : Cal P w K mg base CX0 k "is_within" ["thing", "low", "high"] (spTh2 inn)) (d : Def K mg "is_size" s_is_size ["thing"]) : Cal P w K mg base CX0 (k + 1) "is_size" ["thing"] (spTh (inn 1 8)) := by
  refine d.ok sc_is_size (fun vs H Q E h => ?_) (fun f cdv A outer s H vs Q E hr h => ?_)
  · obtain ⟨_, _, _, rfl, _⟩ := h; rfl
  obtain ⟨Zn, v, d, rfl, h, sd, q⟩ := h
  refine ⟨_, (pss_one (ps_ret (pe_cal c_is_within hr (by rfl) (pa_cons (pv 0) (pa_cons pe_int (pa_cons (pe_glob (v := .int 8) (by rfl) M.MOST_LETTERS ⟨_, rfl⟩) pa_nil)))))), ?_⟩
  exact ⟨v, rfl, Zn, v, d, 1, 8, rfl, h, sd, fun H1 s1 => q H1 s1⟩
theorem isPair_tup {d : Th} (h : isPair d = true) : ∃ a b, d = .tup [a, b] := by
  cases d with
  | tup xs =>
    rw [isPair, decide_eq_true_eq] at h
    match xs, h with
    | [a, b], _ => exact ⟨a, b, rfl⟩
  | _ => cases h
theorem At.pair {Z : Zone} {H : Hp} {a b : Th} {v : V} (h : At Z H (.tup [a, b]) v) : ∃ p u w', v = .ref p ∧ H p = some (.tup [u, w']) ∧ At Z H a u ∧ At Z H b w' := by
  obtain ⟨p, vs, rfl, _, e, u, us, rfl, h1, w', ws, rfl, h2, e3⟩ := h
  rw [show ws = [] from e3] at e
  exact ⟨p, u, w', rfl, e, h1, h2⟩
theorem short_pair {a b : Th} (h : shortT (.tup [a, b]) = true) : shortT a = true ∧ shortT b = true := by
  simp only [shortT, shortL, Bool.and_eq_true] at h
  exact ⟨h.2.1, h.2.2.1⟩
theorem short_tup {xs : List Th} (h : shortT (.tup xs) = true) : xs.length ≤ 1000000 ∧ shortL xs = true := by
  simp only [shortT, Bool.and_eq_true, decide_eq_true_eq] at h
  exact h
theorem not_true {b : Bool} (h : (!b) = true) : b = false := by cases b <;> first | rfl | cases h
theorem not_false' {b : Bool} (h : (!b) = false) : b = true := by cases b <;> first | rfl | cases h
theorem At.isN {Z : Zone} {H : Hp} {d : Th} {v : V} (h : At Z H d v) : decide (v = .non) = isNon d := by
  cases d with
  | non => cases h; rfl
  | bl b => cases h; rfl
  | int i => cases h; rfl
  | str x => cases h; rfl
  | lst xs => obtain ⟨a, vs, rfl, _⟩ := h; rfl
  | tup xs => obtain ⟨a, vs, rfl, _⟩ := h; rfl
  | dic xs => obtain ⟨a, l, vs, rfl, _⟩ := h; rfl
theorem ok_is_step {t1 t2 t3 : Tok} (M : Ms mg t1 t2 t3) (c_is_pair : Cal P w K mg base CX0 k "is_pair" ["thing"] (spTh isPair)) (c_is_within : Cal P w K mg base CX0 k "is_within" ["thing", "low", "high"] (spTh2 inn)) (d : Def K mg "is_step" s_is_step ["thing", "states"]) : Cal P w K mg base CX0 (k + 1) "is_step" ["thing", "states"] (spTh1 stepB) := by
  refine d.ok sc_is_step (fun vs H Q E h => ?_) (fun f cdv A outer s H vs Q E hr h => ?_)
  · obtain ⟨_, _, _, _, rfl, _⟩ := h; rfl
  obtain ⟨Zn, v, d, n, rfl, h, sd, q⟩ := h
  refine ⟨_, (pss_cons (ps_if (pt_not (pt_val (pe_cal c_is_pair hr (by rfl) (pa_cons (pv 0) pa_nil)))) (pss_one (ps_ret pe_bl)) pss_nil)
      (pss_cons (ps_asg (pv 0) (pg_tup (by rfl) (pgs_cons (pg_name (i := 2) sc_is_step.nd rfl (Or.inl rfl)) (pgs_cons (pg_name (i := 3) sc_is_step.nd rfl (Or.inl rfl)) pgs_nil))))
      (pss_one (ps_ret (pe_and (pe_cal c_is_within hr (by rfl) (pa_cons (pv 2) (pa_cons pe_int (pa_cons (pe_glob (v := .int 60) (by rfl) M.MOST_BITS ⟨_, rfl⟩) pa_nil)))) (pe_one (pe_cal c_is_within hr (by rfl) (pa_cons (pv 3) (pa_cons pe_int (pa_cons (pe_op op_sub (pv 1) pe_int) pa_nil)))))))))), ?_⟩
  refine ⟨v, rfl, Zn, v, d, rfl, h, sd, fun H1 s1 => ⟨_, rfl, iteB (fun e => ?_) (fun e => ?_)⟩⟩
  · have q' := q H1 s1
    rw [show stepB n d = false by
      have e' := not_true e
      cases d with
      | tup xs => match xs, e' with
        | [], _ => rfl
        | [_], _ => rfl
        | [_, _], e' => cases e'
        | _ :: _ :: _ :: _, _ => rfl
      | _ => rfl] at q'
    exact q'
  · obtain ⟨a, b, rfl⟩ := isPair_tup (not_false' e)
    obtain ⟨p, u, w', rfl, ep, ha, hb⟩ := (h.same s1).pair
    obtain ⟨sa, sb⟩ := short_pair sd
    refine ⟨_, rfl, p, [u, w'], rfl, .of ep, rfl, u, [w'], rfl, w', [], rfl, rfl, ?_⟩
    refine ⟨u, rfl, Zn, u, a, 0, 60, rfl, ha, sa, fun H2 s2 => ⟨_, rfl, iteB (fun e1 => ?_) (fun e1 => ?_)⟩⟩
    · refine ⟨w', rfl, _, rfl, _, _, rfl, rfl, Zn, w', b, 0, n - 1, rfl, hb.same s2, sb, fun H3 s3 => ?_⟩
      have q' := q H3 (s1.trans (s2.trans s3))
      rw [stepB, e1] at q'
      exact q'
    · have q' := q H2 (s1.trans s2)
      rw [stepB, e1] at q'
      exact q'
abbrev sc_is_rowN : List Str := ["thing", "size", "states", "end", "steps", "step"]
abbrev s_is_row : Stmt := topS 15
theorem sc_is_row : FnScope ["thing", "size", "states", "end", "steps", "step"] ["thing", "size", "states"] (defScope s_is_row) := ⟨rfl, rfl, rfl, by decide +kernel, rfl, by decide +kernel, by decide +kernel⟩
def tlen : Th → Nat
  | .tup xs => xs.length
  | _ => 0
theorem rowB_not {z n : Int} {d : Th} (h : isPair d = false) : rowB z n d = false := by
  cases d with
  | tup xs =>
    match xs, h with
    | [], _ => rfl
    | [_], _ => rfl
    | [_, _], h => cases h
    | a :: b :: c :: r, _ => cases b <;> rfl
  | _ => rfl
theorem rowB_end {z n : Int} {a b : Th} (h : (!(isNon a || inn 1 60 a)) = true) : rowB z n (.tup [a, b]) = false := by
  cases b with
  | tup ss => rw [rowB, not_true h]; rfl
  | _ => rfl
theorem rowB_len {z n : Int} {a b : Th} (h : (!(isT b && decide (((tlen b : Nat) : Int) = z))) = true) : rowB z n (.tup [a, b]) = false := by
  have h' := not_true h
  cases b with
  | tup ss =>
    rw [show isT (Th.tup ss) = true from rfl, Bool.true_and] at h'
    rw [rowB, show decide ((ss.length : Int) = z) = false from h', Bool.and_false, Bool.false_and]
  | _ => rfl
theorem ok_is_row {t1 t2 t3 : Tok} (Z : Zs mg) (M : Ms mg t1 t2 t3) (c_is_pair : Cal P w K mg base CX0 k "is_pair" ["thing"] (spTh isPair)) (c_is_within : Cal P w K mg base CX0 k "is_within" ["thing", "low", "high"] (spTh2 inn)) (c_is_step : Cal P w K mg base CX0 k "is_step" ["thing", "states"] (spTh1 stepB)) (d : Def K mg "is_row" s_is_row ["thing", "size", "states"]) : Cal P w K mg base CX0 (k + 1) "is_row" ["thing", "size", "states"] (spTh2 rowB) := by
  refine d.ok sc_is_row (fun vs H Q E h => ?_) (fun f cdv A outer s H vs Q E hr h => ?_)
  · obtain ⟨_, _, _, _, _, rfl, _⟩ := h; rfl
  obtain ⟨Zn, v, d, z, n, rfl, h, sd, q⟩ := h
  refine ⟨_, (pss_cons (ps_if (pt_not (pt_val (pe_cal c_is_pair hr (by rfl) (pa_cons (pv 0) pa_nil)))) (pss_one (ps_ret pe_bl)) pss_nil)
      (pss_cons (ps_asg (pv 0) (pg_tup (by rfl) (pgs_cons (pg_name (i := 3) sc_is_row.nd rfl (Or.inl rfl)) (pgs_cons (pg_name (i := 4) sc_is_row.nd rfl (Or.inl rfl)) pgs_nil))))
      (pss_cons (ps_if (PW.pt (pw_and (pt_cmpR op_notN (pv 3) pe_non (nomark _)) (pw_and1 (pt_not (pt_val (pe_cal c_is_within hr (by rfl) (pa_cons (pv 3) (pa_cons pe_int (pa_cons (pe_glob (v := .int 60) (by rfl) M.MOST_BITS ⟨_, rfl⟩) pa_nil))))))))) (pss_one (ps_ret pe_bl)) pss_nil)
      (pss_cons (ps_if (PW.pt (pw_or (pt_not (pt_val (pe_callB (id := "isinstance") call_isi (by rfl) Z.isinstance (by decide +kernel) (pa_cons (pv 4) (pa_cons (pe_bltn (v := .ty "tuple") (by rfl) Z.tuple (by decide +kernel) rfl) pa_nil))))) (pw_or1 (pt_cmpR op_ne (pe_callB (id := "len") call_len_seq (by rfl) Z.len (by decide +kernel) (pa_cons (pv 4) pa_nil)) (pv 1) (nomark _))))) (pss_one (ps_ret pe_bl)) pss_nil)
      (pss_one (ps_ret (pe_callB (id := "all") (cr_all rfl) (by rfl) Z.all (by decide +kernel) (pa_cons (pe_lc (own := [("step", 5)]) (g := gName 5) (tt := tYes) rfl sc_is_row.nd (pi_tup (pv 4)) (blkOk_by (N := ["thing", "size", "states", "end", "steps", "step"]) (sc := defScope s_is_row) (by decide +kernel)) (fun _ _ _ _ _ => (pg_name (i := 5) sc_is_row.nd rfl (Or.inl rfl))) (fun _ _ _ _ _ => pts_nil) (fun _ _ _ _ _ => (pe_or (pe_cmpR op_isN (pv 5) pe_non (nomark _)) (pe_one (pe_cal c_is_step hr (by rfl) (pa_cons (pv 5) (pa_cons (pv 2) pa_nil))))))) pa_nil)))))))), ?_⟩
  refine ⟨v, rfl, Zn, v, d, rfl, h, sd, fun H1 s1 => ⟨_, rfl, iteB (fun e => ?_) (fun e => ?_)⟩⟩
  · have q' := q H1 s1
    rw [rowB_not (not_true e)] at q'
    exact q'
  obtain ⟨a, b, rfl⟩ := isPair_tup (not_false' e)
  obtain ⟨p, u, w', rfl, ep, ha, hb⟩ := (h.same s1).pair
  obtain ⟨sa, sb⟩ := short_pair sd
  refine ⟨_, rfl, p, [u, w'], rfl, .of ep, rfl, u, [w'], rfl, w', [], rfl, rfl, ?_⟩
  -- if end is not None and not is_within(end, ..)
  try dsimp only
  refine rd_ifs (!(isNon a || inn 1 60 a)) (fun R hR => ?_) (fun H2 s2 e2 => ?_) (fun H2 s2 e2 => ?_)
  · refine ⟨u, rfl, rfl, _, rfl, iteB (fun e1 => ?_) (fun e1 => ?_)⟩
    · rw [ha.isN] at e1
      refine ⟨u, rfl, Zn, u, a, 1, 60, rfl, ha, sa, fun H2 s2 => ⟨_, rfl, ?_⟩⟩
      have r' := hR H2 s2
      rw [not_true e1, Bool.false_or] at r'
      exact r'
    · rw [ha.isN] at e1
      have r' := hR H1 (Same.refl H1)
      rw [not_false' e1, Bool.true_or] at r'
      exact r'
  · have q' := q H2 (s1.trans s2)
    rw [rowB_end e2] at q'
    exact q'
  have eA := not_false' e2
  try dsimp only
  refine rd_ifs (!(isT b && decide (((tlen b : Nat) : Int) = z))) (fun R hR => ?_) (fun H3 s3 e3 => ?_) (fun H3 s3 e3 => ?_)
  · refine ⟨w', rfl, _, _, _, _, _, rfl, .ty _, (At.tyx (hb.same s2)), kit_ty (kitT b), _, rfl, iteB (fun e3 => ?_) (fun e3 => ?_)⟩
    · have r' := hR H2 (Same.refl H2)
      rw [not_true e3, Bool.false_and] at r'
      exact r'
    · obtain ⟨ss, rfl⟩ := isT_tup (not_false' e3)
      obtain ⟨p2, us, rfl, _, e2', hs⟩ := hb.same s2
      refine ⟨_, rfl, p2, us, rfl, .inr (.of e2'), _, rfl, rfl, _, rfl, ?_⟩
      have r' := hR H2 (Same.refl H2)
      rw [hs.len]
      rw [show isT (Th.tup ss) = true from rfl, Bool.true_and] at r'
      rw [show decide (V.int ((ss.length : Nat) : Int) = V.int z) = decide (((tlen (.tup ss) : Nat) : Int) = z) from decide_eq_decide.mpr ⟨fun e => by injection e, fun e => congrArg V.int e⟩]
      exact r'
  · have q' := q H3 (s1.trans (s2.trans s3))
    rw [rowB_len e3] at q'
    exact q'
  have e4 := not_false' e3
  rw [Bool.and_eq_true, decide_eq_true_eq] at e4
  obtain ⟨ss, rfl⟩ := isT_tup e4.1
  obtain ⟨p2, us, rfl, _, e2', hs⟩ := (hb.same s2).same s3
  obtain ⟨l1, l2⟩ := short_tup sb
  refine ⟨_, rfl, p2, rfl, ⟨_, .of e2'⟩, lc_bl (f := stepO n) e2' hs l1 (fun _ => rfl) (fun x dx H4 md s4 hx R hR => ?_) (fun D H4 s4 hD eD => ⟨D, _, rfl, .of eD, ?_⟩)⟩
  · refine ⟨x, rfl, rfl, _, rfl, iteB (fun e5 => ?_) (fun e5 => ?_)⟩
    · rw [hx.isN] at e5
      have r' := hR H4 (Same.refl H4)
      rw [stepO, e5, Bool.true_or] at r'
      exact r'
    · rw [hx.isN] at e5
      refine ⟨x, rfl, _, rfl, Zn, x, dx, n, rfl, hx, ?_, fun H5 s5 => ?_⟩
      · exact shortL_mem l2 md
      · have r' := hR H5 s5
        rw [stepO, e5, Bool.false_or] at r'
        exact r'
  · have q' := q H4 (s1.trans (s2.trans (s3.trans s4)))
    rw [show rowB z n (.tup [a, .tup ss]) = ((ss.map (stepO n)).all id) by
      rw [rowB, eA, show decide ((ss.length : Int) = z) = true from decide_eq_true e4.2, List.all_map]; rfl] at q'
    exact q'
abbrev sc_is_framedN : List Str := ["thing", "size", "rows"]
abbrev s_is_framed : Stmt := topS 13
theorem sc_is_framed : FnScope ["thing", "size", "rows"] ["thing"] (defScope s_is_framed) := ⟨rfl, rfl, rfl, by decide +kernel, rfl, by decide +kernel, by decide +kernel⟩
abbrev sc_is_machineN : List Str := ["thing", "size", "rows", "row"]
abbrev s_is_machine : Stmt := topS 12
theorem sc_is_machine : FnScope ["thing", "size", "rows", "row"] ["thing"] (defScope s_is_machine) := ⟨rfl, rfl, rfl, by decide +kernel, rfl, by decide +kernel, by decide +kernel⟩
theorem machB_not {d : Th} (h : isPair d = false) : machB d = false := by
  cases d with
  | tup xs =>
    match xs, h with
    | [], _ => rfl
    | [_], _ => rfl
    | [_, _], h => cases h
    | a :: b :: c :: r, _ => cases b <;> rfl
  | _ => rfl
theorem machB_size {z r : Th} (h : (!(inn 1 8 z && isT r)) = true) : machB (.tup [z, r]) = false := by
  have h' := not_true h
  cases r with
  | tup rows =>
    rw [show isT (Th.tup rows) = true from rfl, Bool.and_true] at h'
    rw [machB, h', Bool.false_and, Bool.false_and, Bool.false_and]
  | _ => rfl
theorem inn_int {lo hi : Int} {d : Th} (h : inn lo hi d = true) : ∃ i, d = .int i ∧ lo ≤ i ∧ i ≤ hi := by
  cases d with
  | int i =>
    rw [inn, Bool.and_eq_true, decide_eq_true_eq, decide_eq_true_eq] at h
    exact ⟨i, rfl, h.1, h.2⟩
  | _ => cases h
def framB : Th → Bool
  | .tup [a, .tup rows] => inn 1 8 a && decide (1 ≤ rows.length) && decide (rows.length ≤ 30)
  | _ => false
theorem framB_not {d : Th} (h : isPair d = false) : framB d = false := by
  cases d with
  | tup xs =>
    match xs, h with
    | [], _ => rfl
    | [_], _ => rfl
    | [_, _], h => cases h
    | a :: b :: c :: r, _ => cases b <;> rfl
  | _ => rfl
theorem framB_is {d : Th} (h : framB d = true) : ∃ z rows, d = .tup [.int z, .tup rows] ∧ 1 ≤ z ∧ z ≤ 8 ∧ 1 ≤ rows.length ∧ rows.length ≤ 30 := by
  cases d with
  | tup xs =>
    match xs, h with
    | [a, .tup rows], h =>
      rw [framB, Bool.and_eq_true, Bool.and_eq_true, decide_eq_true_eq, decide_eq_true_eq] at h
      obtain ⟨z, rfl, z1, z8⟩ := inn_int h.1.1
      exact ⟨z, rows, rfl, z1, z8, h.1.2, h.2⟩
  | _ => cases h
theorem machB_fram {d : Th} (h : framB d = false) : machB d = false := by
  cases d with
  | tup xs =>
    match xs, h with
    | [], _ => rfl
    | [_], _ => rfl
    | [a, .tup rows], h =>
      rw [framB] at h
      rw [machB, h, Bool.false_and]
    | [a, .non], _ | [a, .bl _], _ | [a, .int _], _ | [a, .str _], _ | [a, .lst _], _ | [a, .dic _], _ => rfl
    | a :: b :: c :: r, _ => cases b <;> rfl
  | _ => rfl
theorem machB_rows {a : Th} {rows : List Th} (h : framB (.tup [a, .tup rows]) = true) : machB (.tup [a, .tup rows]) = rows.all (rowB (num a) (rows.length : Int)) := by
  rw [framB] at h
  rw [machB, h, Bool.true_and]
theorem ok_is_framed {t1 t2 t3 : Tok} (Z : Zs mg) (M : Ms mg t1 t2 t3) (c_is_pair : Cal P w K mg base CX0 k "is_pair" ["thing"] (spTh isPair)) (c_is_size : Cal P w K mg base CX0 k "is_size" ["thing"] (spTh (inn 1 8))) (d : Def K mg "is_framed" s_is_framed ["thing"]) : Cal P w K mg base CX0 (k + 1) "is_framed" ["thing"] (spTh framB) := by
  refine d.ok sc_is_framed (fun vs H Q E h => ?_) (fun f cdv A outer s H vs Q E hr h => ?_)
  · obtain ⟨_, _, _, rfl, _⟩ := h; rfl
  obtain ⟨Zn, v, d, rfl, h, sd, q⟩ := h
  refine ⟨_, (pss_cons (ps_if (pt_not (pt_val (pe_cal c_is_pair hr (by rfl) (pa_cons (pv 0) pa_nil)))) (pss_one (ps_ret pe_bl)) pss_nil)
      (pss_cons (ps_asg (pv 0) (pg_tup (by rfl) (pgs_cons (pg_name (i := 1) sc_is_framed.nd rfl (Or.inl rfl)) (pgs_cons (pg_name (i := 2) sc_is_framed.nd rfl (Or.inl rfl)) pgs_nil))))
      (pss_one (ps_ret (pe_and (pe_cal c_is_size hr (by rfl) (pa_cons (pv 1) pa_nil)) (pe_and (pe_callB (id := "isinstance") call_isi (by rfl) Z.isinstance (by decide +kernel) (pa_cons (pv 2) (pa_cons (pe_bltn (v := .ty "tuple") (by rfl) Z.tuple (by decide +kernel) rfl) pa_nil))) (pe_one (pe_chain op_le op_le pe_int (pe_callB (id := "len") call_len_seq (by rfl) Z.len (by decide +kernel) (pa_cons (pv 2) pa_nil)) (pe_glob (v := .int 30) (by rfl) M.MOST_STATES ⟨_, rfl⟩))))))))), ?_⟩
  refine ⟨v, rfl, Zn, v, d, rfl, h, sd, fun H1 s1 => ⟨_, rfl, iteB (fun e => ?_) (fun e => ?_)⟩⟩
  · have q' := q H1 s1
    rw [framB_not (not_true e)] at q'
    exact q'
  obtain ⟨a, b, rfl⟩ := isPair_tup (not_false' e)
  obtain ⟨p, u, w', rfl, ep, ha, hb⟩ := (h.same s1).pair
  obtain ⟨sa, sb⟩ := short_pair sd
  refine ⟨_, rfl, p, [u, w'], rfl, .of ep, rfl, u, [w'], rfl, w', [], rfl, rfl, ?_⟩
  refine ⟨u, rfl, Zn, u, a, rfl, ha, sa, fun H2 s2 => ⟨_, rfl, ?_⟩⟩
  have s12 := s1.trans s2
  cases e2 : inn 1 8 a with
  | false =>
    have q' := q H2 s12
    rw [show framB (.tup [a, b]) = false by cases b <;> first | rfl | (rw [framB, e2]; rfl)] at q'
    exact q'
  | true =>
    refine ⟨w', rfl, _, _, _, _, _, rfl, .ty _, (At.tyx (hb.same s2)), kit_ty (kitT b), _, rfl, ?_⟩
    cases e3 : isT b with
    | false =>
      have q' := q H2 s12
      rw [show framB (.tup [a, b]) = false by cases b <;> first | rfl | cases e3] at q'
      exact q'
    | true =>
      obtain ⟨rows, rfl⟩ := isT_tup e3
      obtain ⟨p2, us, rfl, _, e2', hs⟩ := hb.same s2
      have hl : ((us.length : Nat) : Int) = ((rows.length : Nat) : Int) := by rw [hs.len]
      have d1 : decide ((1 : Int) ≤ ((us.length : Nat) : Int)) = decide (1 ≤ rows.length) := by rw [hl]; exact decide_eq_decide.mpr (by omega)
      have d2 : decide (((us.length : Nat) : Int) ≤ (30 : Int)) = decide (rows.length ≤ 30) := by rw [hl]; exact decide_eq_decide.mpr (by omega)
      refine ⟨_, rfl, p2, us, rfl, .inr (.of e2'), _, _, rfl, rfl, _, rfl, iteB (fun e4 => ?_) (fun e4 => ?_)⟩
      · rw [d1] at e4
        refine ⟨_, _, rfl, rfl, ?_⟩
        have q' := q H2 s12
        rw [framB, e2, e4, Bool.true_and, Bool.true_and, ← d2] at q'
        exact q'
      · rw [d1] at e4
        have q' := q H2 s12
        rw [framB, e2, e4, Bool.true_and, Bool.false_and] at q'
        exact q'
theorem ok_is_machine (Z : Zs mg) (c_is_framed : Cal P w K mg base CX0 k "is_framed" ["thing"] (spTh framB)) (c_is_row : Cal P w K mg base CX0 k "is_row" ["thing", "size", "states"] (spTh2 rowB)) (d : Def K mg "is_machine" s_is_machine ["thing"]) : Cal P w K mg base CX0 (k + 1) "is_machine" ["thing"] (spTh machB) := by
  refine d.ok sc_is_machine (fun vs H Q E h => ?_) (fun f cdv A outer s H vs Q E hr h => ?_)
  · obtain ⟨_, _, _, rfl, _⟩ := h; rfl
  obtain ⟨Zn, v, d, rfl, h, sd, q⟩ := h
  refine ⟨_, (pss_cons (ps_if (pt_not (pt_val (pe_cal c_is_framed hr (by rfl) (pa_cons (pv 0) pa_nil)))) (pss_one (ps_ret pe_bl)) pss_nil)
      (pss_cons (ps_asg (pv 0) (pg_tup (by rfl) (pgs_cons (pg_name (i := 1) sc_is_machine.nd rfl (Or.inr rfl)) (pgs_cons (pg_name (i := 2) sc_is_machine.nd rfl (Or.inr rfl)) pgs_nil))))
      (pss_one (ps_ret (pe_callB (id := "all") (cr_all rfl) (by rfl) Z.all (by decide +kernel) (pa_cons (pe_lc (own := [("row", 3)]) (g := gName 3) (tt := tYes) rfl sc_is_machine.nd (pi_tup (pv 2)) (blkOk_by (N := ["thing", "size", "rows", "row"]) (sc := defScope s_is_machine) (by decide +kernel)) (fun _ _ _ _ _ => (pg_name (i := 3) sc_is_machine.nd rfl (Or.inl rfl))) (fun _ _ _ _ _ => pts_nil) (fun _ _ _ _ _ => (pe_cal c_is_row hr (by rfl) (pa_cons (pv 3) (pa_cons (pv 1) (pa_cons (pe_callB (id := "len") (r := rLenS K) call_len_seq (by rfl) Z.len (by decide +kernel) (pa_cons (pv 2) pa_nil)) pa_nil)))))) pa_nil)))))), ?_⟩
  refine ⟨v, rfl, Zn, v, d, rfl, h, sd, fun H1 s1 => ⟨_, rfl, iteB (fun e => ?_) (fun e => ?_)⟩⟩
  · have q' := q H1 s1
    rw [machB_fram (not_true e)] at q'
    exact q'
  have e0 := not_false' e
  obtain ⟨z, rows, rfl, z1, z8, n1, n30⟩ := framB_is e0
  obtain ⟨p, u, w', rfl, ep, ha, hb⟩ := (h.same s1).pair
  obtain ⟨sa, sb⟩ := short_pair sd
  cases ha
  obtain ⟨p2, us, rfl, _, e2', hs⟩ := hb
  obtain ⟨l1, l2⟩ := short_tup sb
  have hl : ((us.length : Nat) : Int) = ((rows.length : Nat) : Int) := by rw [hs.len]
  refine ⟨_, rfl, p, _, rfl, .of ep, rfl, _, _, rfl, _, _, rfl, rfl, ?_⟩
  refine ⟨_, rfl, p2, rfl, ⟨_, .of e2'⟩, lc_bl (f := rowB z (rows.length : Int)) e2' hs l1 (fun _ => rfl) (fun x dx H4 md s4 hx R hR => ?_) (fun D H4 s4 hD eD => ⟨D, _, rfl, .of eD, ?_⟩)⟩
  · refine ⟨x, rfl, _, rfl, _, rfl, p2, us, rfl, .inr (.of (s4 _ _ e2')), Zn, x, dx, z, _, rfl, hx, shortL_mem l2 md, fun H5 s5 => ?_⟩
    rw [hl]
    exact hR H5 s5
  · have q' := q H4 (s1.trans s4)
    rw [machB_rows e0, show rows.all (rowB (num (.int z)) (rows.length : Int)) = ((rows.map (rowB z (rows.length : Int))).all id) by rw [List.all_map]; rfl] at q'
    exact q'
end
end KL
end
section
namespace KL
open PySem PySem.Spec PyProof.Rows L2
/-! ### the well: a list of the script's cells, and three numbers -/
def WellAt (W c : Addr) (H : Hp) : Prop := ∃ (ns : List Int) (n v g : Int), H W = some (.lst [.ref c, .int n, .int v, .int g]) ∧ H c = some (.lst (ns.map V.int)) ∧ ns.length ≤ 63 ∧ (0 : Int) ≤ n
def spMixed : Sp := fun vs H Q _ => ∃ n, vs = [.int n] ∧ ∀ r, Q (.int r) H
def spFilled : Sp := fun vs H Q _ => ∃ W c, vs = [.ref W] ∧ WellAt W c H ∧ ∀ r H', SB (At1 W) H H' → WellAt W c H' → Q (.int r) H'
def spDraw : Sp := fun vs H Q _ => ∃ W c m, vs = [.ref W, .int m] ∧ WellAt W c H ∧ 0 < m ∧ m < 1073741824 ∧ ∀ r H', 0 ≤ r → r < m → SB (At1 W) H H' → WellAt W c H' → Q (.int r) H'
section
variable {P : Program} {w : World} {K : PySem.W.Frag} {mg : Str → Option Value} {base : Heap} {k : Nat}
theorem cell_at {ns : List Int} {n : Int} (h0 : 0 ≤ n) (h : n + 1 ≤ ((ns.map V.int).length : Nat)) : ∃ x : Int, atI (ns.map V.int) (n + 1 - 1) = some (.int x) := by
  rw [List.length_map] at h
  have hk : n.toNat < ns.length := by omega
  have e : n + 1 - 1 = ((n.toNat : Nat) : Int) := by omega
  refine ⟨ns[n.toNat], ?_⟩
  rw [e]
  exact atI_nat (by rw [List.getElem?_map, List.getElem?_eq_getElem hk]; rfl)
theorem cells_ne {W c : Addr} {H : Hp} {a : Addr} {xs : List V} {ns : List Int} (hW : H W = some (.lst (.ref a :: xs))) (hc : H c = some (.lst (ns.map V.int))) : c ≠ W := fun e => by
  rw [e, hW] at hc
  have e2 := Option.some.inj hc
  injection e2 with e3
  cases ns with
  | nil => cases e3
  | cons a b => injection e3 with e4 _; cases e4
def spWell (K : PySem.W.Frag) : Sp := fun vs H Q _ => ∃ a ns, vs = [.ref a] ∧ SqL K H a (List.map V.int ns) ∧ ns.length ≤ 63 ∧ ∀ W c H', Same H H' → H W = none → WellAt W c H' → Q (.ref W) H'
theorem cut_ints (ns : List Int) (lo hi : Option Int) : ∃ ms : List Int, cutV (ns.map V.int) lo hi = ms.map V.int ∧ ms.length ≤ ns.length := by
  unfold cutV
  refine ⟨(ns.drop (HT.sIx (ns.map V.int).length 0 lo)).take (HT.sIx (ns.map V.int).length (ns.map V.int).length hi - HT.sIx (ns.map V.int).length 0 lo), ?_, ?_⟩
  · rw [List.map_take, List.map_drop]
  · rw [List.length_take, List.length_drop]; omega
end
end KL
end
section
namespace KL
open PySem PySem.Spec PyProof.Rows L2
/-! ### how great a thing is -/
mutual
def bk : Th → Nat
  | .str x => x.cps.size
  | .lst xs => bkL xs
  | .tup xs => bkL xs
  | .dic xs => bkL xs + 5
  | _ => 0
def bkL : List Th → Nat
  | [] => 0
  | x :: xs => bk x + 1 + bkL xs
end
mutual
def lf (M : Nat) : Th → Bool
  | .int i => decide (i.natAbs ≤ M)
  | .str x => x.cps.toList.all fun c => decide (c < 128)
  | .lst xs => lfL M xs
  | .tup xs => lfL M xs
  | .dic xs => lfL M xs
  | _ => true
def lfL (M : Nat) : List Th → Bool
  | [] => true
  | x :: xs => lf M x && lfL M xs
end
mutual
def dp : Th → Nat
  | .lst xs => dpL xs + 1
  | .tup xs => dpL xs + 1
  | .dic xs => dpL xs + 2
  | _ => 0
def dpL : List Th → Nat
  | [] => 0
  | x :: xs => max (dp x) (dpL xs)
end
theorem bkL_append : ∀ xs ys : List Th, bkL (xs ++ ys) = bkL xs + bkL ys
  | [], ys => by simp [bkL]
  | x :: xs, ys => by rw [List.cons_append, bkL, bkL, bkL_append xs ys]; omega
theorem lfL_append (M : Nat) : ∀ xs ys : List Th, lfL M (xs ++ ys) = (lfL M xs && lfL M ys)
  | [], ys => by simp [lfL]
  | x :: xs, ys => by rw [List.cons_append, lfL, lfL, lfL_append M xs ys, Bool.and_assoc]
theorem dpL_append : ∀ xs ys : List Th, dpL (xs ++ ys) = max (dpL xs) (dpL ys)
  | [], ys => by simp [dpL]
  | x :: xs, ys => by rw [List.cons_append, dpL, dpL, dpL_append xs ys]; omega
theorem len_bkL : ∀ xs : List Th, xs.length ≤ bkL xs
  | [] => Nat.zero_le _
  | x :: xs => by rw [List.length_cons, bkL]; have := len_bkL xs; omega
/-- a good thing: bounded in all -/
structure Gd (B M D : Nat) (t : Th) : Prop where
  b : bk t ≤ B
  m : lf M t = true
  d : dp t ≤ D
structure GdL (B M D : Nat) (ts : List Th) : Prop where
  b : bkL ts ≤ B
  m : lfL M ts = true
  d : dpL ts ≤ D
mutual
theorem lf_mono {M N : Nat} (h : M ≤ N) : ∀ t : Th, lf M t = true → lf N t = true
  | .non, _ => rfl
  | .bl _, _ => rfl
  | .int i, e => by rw [lf, decide_eq_true_eq] at e ⊢; omega
  | .str x, e => e
  | .lst xs, e => lfL_mono h xs e
  | .tup xs, e => lfL_mono h xs e
  | .dic xs, e => lfL_mono h xs e
theorem lfL_mono {M N : Nat} (h : M ≤ N) : ∀ ts : List Th, lfL M ts = true → lfL N ts = true
  | [], _ => rfl
  | x :: xs, e => by
    rw [lfL, Bool.and_eq_true] at e ⊢
    exact ⟨lf_mono h x e.1, lfL_mono h xs e.2⟩
end
theorem Gd.mono {B M D B' M' D' : Nat} {t : Th} (g : Gd B M D t) (hb : B ≤ B') (hm : M ≤ M') (hd : D ≤ D') : Gd B' M' D' t := ⟨Nat.le_trans g.b hb, lf_mono hm t g.m, Nat.le_trans g.d hd⟩
theorem GdL.mono {B M D B' M' D' : Nat} {t : List Th} (g : GdL B M D t) (hb : B ≤ B') (hm : M ≤ M') (hd : D ≤ D') : GdL B' M' D' t := ⟨Nat.le_trans g.b hb, lfL_mono hm t g.m, Nat.le_trans g.d hd⟩
theorem Gd.tup {B M D : Nat} {ts : List Th} (g : GdL B M D ts) : Gd B M (D + 1) (.tup ts) := ⟨g.b, g.m, Nat.succ_le_succ g.d⟩
theorem Gd.lst {B M D : Nat} {ts : List Th} (g : GdL B M D ts) : Gd B M (D + 1) (.lst ts) := ⟨g.b, g.m, Nat.succ_le_succ g.d⟩
theorem Gd.dic {B M D : Nat} {ts : List Th} (g : GdL B M D ts) : Gd (B + 5) M (D + 2) (.dic ts) := ⟨Nat.add_le_add_right g.b 5, g.m, Nat.add_le_add_right g.d 2⟩
theorem GdL.nil {M D : Nat} : GdL 0 M D [] := ⟨Nat.le_refl _, rfl, Nat.zero_le _⟩
theorem GdL.cons {B C M D : Nat} {t : Th} {ts : List Th} (g : Gd B M D t) (h : GdL C M D ts) : GdL (B + 1 + C) M D (t :: ts) :=
  ⟨by rw [bkL]; have := g.b; have := h.b; omega, by rw [lfL, g.m, h.m]; rfl, by rw [dpL]; have := g.d; have := h.d; omega⟩
theorem GdL.append {B C M D : Nat} {ts us : List Th} (g : GdL B M D ts) (h : GdL C M D us) : GdL (B + C) M D (ts ++ us) :=
  ⟨by rw [bkL_append]; have := g.b; have := h.b; omega, by rw [lfL_append, g.m, h.m]; rfl, by rw [dpL_append]; have := g.d; have := h.d; omega⟩
theorem GdL.all {B M D : Nat} : ∀ {ts : List Th} {n : Nat}, (∀ t ∈ ts, Gd B M D t) → ts.length ≤ n → GdL (n * (B + 1)) M D ts
  | [], n, _, _ => GdL.nil.mono (Nat.zero_le _) (Nat.le_refl _) (Nat.le_refl _)
  | t :: ts, 0, _, h => by simp at h
  | t :: ts, n + 1, g, h => (GdL.cons (g t List.mem_cons_self) (GdL.all (n := n) (fun u hu => g u (List.mem_cons_of_mem _ hu)) (by simpa using h))).mono (by rw [Nat.succ_mul]; omega) (Nat.le_refl _) (Nat.le_refl _)
theorem Gd.int {M : Nat} {i : Int} (h : i.natAbs ≤ M) : Gd 0 M 0 (.int i) := ⟨Nat.le_refl _, by rw [lf]; exact decide_eq_true h, Nat.le_refl _⟩
theorem Gd.non {M : Nat} : Gd 0 M 0 .non := ⟨Nat.le_refl _, rfl, Nat.le_refl _⟩
theorem Gd.bl {M : Nat} {b : Bool} : Gd 0 M 0 (.bl b) := ⟨Nat.le_refl _, rfl, Nat.le_refl _⟩
theorem Gd.str {M : Nat} {x : Str} {B : Nat} (h : x.cps.size ≤ B) (a : (x.cps.toList.all fun c => decide (c < 128)) = true) : Gd B M 0 (.str x) := ⟨h, a, Nat.le_refl _⟩
mutual
theorem short_of : ∀ t : Th, bk t ≤ 1000000 → shortT t = true
  | .non, _ => rfl
  | .bl _, _ => rfl
  | .int _, _ => rfl
  | .str x, h => by rw [shortT]; exact decide_eq_true h
  | .lst _, _ => rfl
  | .dic _, _ => rfl
  | .tup xs, h => by
    have h2 : bkL xs ≤ 1000000 := h
    have h3 := len_bkL xs
    rw [shortT, short_ofL xs h2, Bool.and_true]
    exact decide_eq_true (by omega)
theorem short_ofL : ∀ ts : List Th, bkL ts ≤ 1000000 → shortL ts = true
  | [], _ => rfl
  | x :: xs, h => by
    rw [bkL] at h
    rw [shortL, short_of x (by omega), short_ofL xs (by omega)]
    rfl
end
theorem Gd.short {B M D : Nat} {t : Th} (g : Gd B M D t) (h : B ≤ 1000000) : shortT t = true := short_of t (Nat.le_trans g.b h)
/-! nodes -/
mutual
def nod : Th → Nat
  | .tup xs => nodL xs + 1
  | _ => 1
def nodL : List Th → Nat
  | [] => 0
  | x :: xs => nod x + nodL xs
end
mutual
theorem nod_le : ∀ t : Th, nod t ≤ bk t + 1
  | .tup xs => by rw [nod, bk]; have := nodL_le xs; omega
  | .non => Nat.le_add_left 1 _
  | .bl _ => Nat.le_add_left 1 _
  | .int _ => Nat.le_add_left 1 _
  | .str _ => Nat.le_add_left 1 _
  | .lst _ => Nat.le_add_left 1 _
  | .dic _ => Nat.le_add_left 1 _
theorem nodL_le : ∀ ts : List Th, nodL ts ≤ bkL ts
  | [] => Nat.le_refl _
  | x :: xs => by rw [nodL, bkL]; have := nod_le x; have := nodL_le xs; omega
end
theorem nod_pos : ∀ t : Th, 0 < nod t
  | .tup xs => Nat.succ_pos _
  | .non => Nat.one_pos
  | .bl _ => Nat.one_pos
  | .int _ => Nat.one_pos
  | .str _ => Nat.one_pos
  | .lst _ => Nat.one_pos
  | .dic _ => Nat.one_pos
end KL
end
section
set_option maxHeartbeats 4000000
namespace KL
open PySem PySem.Spec PyProof.Rows L2
/-! ### t * 2 of any tuple -/
theorem mul_empty (l : Addr) (n : Nat) (dd : Option Addr) (sl : Array (Option Value)) (u : Tok) :
    Meets (Builtin.«tuple.__mul__» ⟨[.ref l, .int 2 u], []⟩) (fun _ R s => s.heap.get? l = some { cls := .type "tuple", dict := dd, data := .seq #[] n, slots := sl } ∧ R (.ok (.ret (Value.ref l))) s) :=
  .of_wp fun prog w A R s h => by
    obtain ⟨hp, g, d, tk, os⟩ := s
    obtain ⟨hl, h⟩ := h
    have f1 := AutoSeq1.idx_int
    (wp_walk using wpAny_loadPart' hl); skip
    repeat (first
      | (refine wpAny_ite_false (by decide) ?_; wp_walk using wpAny_loadPart' hl)
      | (refine wpAny_ite_true (by decide) ?_; wp_walk using wpAny_loadPart' hl)); skip
    exact ⟨_, rfl, h⟩
def rRep2 (K : PySem.W.Frag) : R2 := fun x y H Q => ∃ l xs, x = .ref l ∧ y = .int 2 ∧ SqT K H l xs ∧ xs.length ≤ 1000000 ∧ (xs = [] → Q (.ref l) H) ∧ (xs ≠ [] → ∀ p, H p = none → Q (.ref p) (upd H p (.tup (xs ++ xs))))
section
variable {X : Cx}
theorem op_rep2 : OpR X (binaryOp .Mult) (rRep2 X.K) := by
  intro pins s σ H x y v u Q I rx ry h
  obtain ⟨l, xs, rfl, rfl, hT, hz, q0, q1⟩ := h
  cases rx
  obtain ⟨t, rfl⟩ := ry
  obtain ⟨its, r, ⟨⟨cls, dd, data, sl⟩, ho, hc, n, hd⟩, _⟩ := I.tuple hT
  simp only at hc hd
  subst hc hd
  have hle : its.length = xs.length := r.length.symm
  by_cases hx : xs = []
  · subst hx
    cases r
    refine wpAny_binaryOp_repeat_ref (T := "tuple") (U := "int") (by decide) ⟨_, ho, rfl⟩ (fun s' => typeIs_int s' 2 t) noFill_tuple_mul F.fills_int_mul F.slot_int_rmul repeat_tuple F.slot_int_index.lookup ?_
    refine call_meets F.slot_int_rmul (typeIs_int s 2 t) F.entry_int_rmul (F.args_int_rmul_2 _ _) (int_rmul_tuple 2 t l #[] n dd sl) ⟨ho, rfl, ⟨_, ho, rfl⟩, ?_⟩
    exact call_meets F.slot_tuple_mul ⟨_, ho, rfl⟩ F.entry_tuple_mul (F.args_tuple_mul_2 _ _) (mul_empty l n dd sl t) ⟨ho, ⟨.ref l, H, I, rfl, q0 rfl⟩⟩
  · have hi : its.toArray.isEmpty = false := by
      cases its with
      | nil => exact absurd (List.eq_nil_of_length_eq_zero hle.symm) hx
      | cons a b => rfl
    have es : its.toArray.size = xs.length := by rw [List.size_toArray, hle]
    have ef : (List.foldl (fun x1 x2 => x1 ++ x2) #[] (List.replicate (2 : Int).toNat its.toArray)) = (its ++ its).toArray := by
      rw [size_rep]
      show (its ++ (its ++ [])).toArray = (its ++ its).toArray
      rw [List.append_nil]
    have el : (its ++ its).length ≤ sizeLine := by rw [List.length_append, hle, sizeLine_eq]; omega
    have g4 : Builtin.Tuple.tupleTooMany (((its.toArray.size : Nat) : Int) * 2) = false := by
      unfold Builtin.Tuple.tupleTooMany
      rw [es, sizeLine_eq]
      exact decide_eq_false (by omega)
    refine wpAny_binaryOp_repeat_ref (T := "tuple") (U := "int") (by decide) ⟨_, ho, rfl⟩ (fun s' => typeIs_int s' 2 t) noFill_tuple_mul F.fills_int_mul F.slot_int_rmul repeat_tuple F.slot_int_index.lookup ?_
    refine call_meets F.slot_int_rmul (typeIs_int s 2 t) F.entry_int_rmul (F.args_int_rmul_2 _ _) (int_rmul_tuple 2 t l its.toArray n dd sl) ⟨ho, rfl, ⟨_, ho, rfl⟩, ?_⟩
    refine call_meets F.slot_tuple_mul ⟨_, ho, rfl⟩ F.entry_tuple_mul (F.args_tuple_mul_2 _ _) (tuple_mulW l its.toArray n dd sl 2 t (by decide) (by rw [hi]; rfl) (by rw [hi]; rfl) (by rw [es]; omega) g4 (by rw [ef, List.size_toArray]; exact el)) ⟨ho, ?_⟩
    rw [ef]
    refine ⟨.ref s.heap.objs.size, _, I.laid (t' := s.toks) (o := .tup (xs ++ xs)) (fun b ob q => Heap.get?_push_of_some _ q) (Nat.le_refl _) ?_, rfl, q1 hx _ (I.hok.fresh (Nat.le_refl _))⟩
    exact ⟨by rw [List.length_append, sizeLine_eq]; omega, _, Vals.append r r, IsTup.new _ _⟩
end
/-! ### one of a written list -/
theorem pick {α : Type} {xs : List α} {i : Int} (p : α → Prop) (h0 : 0 ≤ i) (h1 : i < (xs.length : Int)) (h : ∀ x ∈ xs, p x) : ∃ x, atI xs i = some x ∧ p x := by
  have e : i = ((i.toNat : Nat) : Int) := by omega
  have hk : i.toNat < xs.length := by omega
  have q := atI_nat (List.getElem?_eq_getElem hk)
  rw [← e] at q
  exact ⟨xs[i.toNat], q, h _ (List.getElem_mem hk)⟩
theorem WellAt.trk {W c : Addr} {H : Hp} (h : WellAt W c H) : Trk H W := by obtain ⟨_, _, _, _, e, _⟩ := h; exact .of e
theorem WellAt.ne {W c : Addr} {H : Hp} (h : WellAt W c H) : c ≠ W := by obtain ⟨_, _, _, _, e, f, _⟩ := h; exact cells_ne e f
theorem WellAt.same {W c : Addr} {H H' : Hp} (h : WellAt W c H) (s : Same H H') : WellAt W c H' := by
  obtain ⟨ns, n, v, g, e, f, r⟩ := h; exact ⟨ns, n, v, g, s _ _ e, s _ _ f, r⟩
theorem WellAt.new {W c p : Addr} {H H0 : Hp} (h : WellAt W c H) (h0 : WellAt W c H0) (hp : H0 p = none) (o : HO) : WellAt W c (upd H p o) := by
  obtain ⟨ns, n, v, g, e, f, r⟩ := h
  obtain ⟨_, _, _, _, e0, f0, _⟩ := h0
  exact ⟨ns, n, v, g, by rw [upd_ne (ne_of_none e0 hp)]; exact e, by rw [upd_ne (ne_of_none f0 hp)]; exact f, r⟩
/-- what was tracked ahead is tracked -/
theorem Trk.well {W c : Addr} {H H' : Hp} (s : SB (At1 W) H H') (w : WellAt W c H') {a : Addr} (h : Trk H a) : Trk H' a := by
  by_cases e : a = W
  · rw [e]; exact w.trk
  · cases q : H a with
    | none => exact absurd q h
    | some o => exact .of (s a o e q)
/-- the way of a new thing to a later heap -/
theorem At.later {W c : Addr} {Z Z' : Zone} {H H' : Hp} {t : Th} {v : V} (h : At Z H t v) (s : SB (At1 W) H H') (z : Z W) (zz : ∀ a, Z' a → Z a) : At Z' H' t v :=
  (h.sb (s.mono fun b e => by rw [show b = W from e]; exact z)).less zz
/-- a list of new things made over a range -/
theorem lc_new {W c : Addr} {lo : Int} {n : Nat} {H : Hp} {G : Th → Prop} {i : Nat} {own : List Nat} {te : TE} {σ : L2.St} {Q : Addr → Hp → Prop} (hW : WellAt W c H) (hn : n ≤ 1000000) (hw : ∀ x, wipe ((wipe σ own).set i (some x)) own = wipe σ own)
    (hs : ∀ j H2, j < n → SB (At1 W) H H2 → WellAt W c H2 → ∀ R : VK, (∀ v t H3, SB (At1 W) H2 H3 → WellAt W c H3 → At (Trk H2) H3 t v → G t → R v H3) → te ((wipe σ own).set i (some (.int (lo + (j : Nat))))) H2 R)
    (hd : ∀ D H' vs ts, SB (At1 W) H H' → WellAt W c H' → H D = none → H' D = some (.lst vs) → AtAll (fun a => a = D ∨ Trk H a) H' ts vs → ts.length = n → (∀ t ∈ ts, G t) → Q D H') :
    ∀ D, H D = none → ∃ Y : Nat → Nat → Hp → Prop, (∃ m, Y 0 m (upd H D (.lst []))) ∧ ∀ i' m H, Y i' m H →
      ((Itr lo n).stop i' H ∧ Q D H) ∨ ((Itr lo n).go i' H ∧ ∃ Nx : Hp → Prop, (∀ H', Nx H' → ∃ m', m' < m ∧ Y (i' + 1) m' H') ∧ ∀ x H', (Itr lo n).yld i' H x H' → gName i x (wipe σ own) H' fun σ2 H2 => wipe σ2 own = wipe σ own ∧ tYes σ2 H2 fun b H3 =>
        if b = true then te σ2 H3 fun y H4 => ∃ acc, H4 D = some (.lst acc) ∧ acc.length < sizeLine ∧ Nx (upd H4 D (.lst (acc ++ [y]))) else Nx H3) := by
  intro D hD
  have nDW : D ≠ W := fun e => by rw [e] at hD; exact hW.trk hD
  refine lc_range (fun j H' => SB (At1 W) H H' ∧ WellAt W c H' ∧ ∃ vs ts, H' D = some (.lst vs) ∧ AtAll (fun a => a = D ∨ Trk H a) H' ts vs ∧ ts.length = j ∧ ∀ t ∈ ts, G t)
    ⟨.new hD _, hW.new hW hD _, [], [], upd_same, .nil, rfl, fun t h => nomatch h⟩ (fun j H' hj p => ?_) (fun H' p => ?_)
  · obtain ⟨s1, w1, vs, ts, e1, a1, l1, g1⟩ := p
    refine ⟨hw _, iteT (B := False) (hs j H' hj s1 w1 _ fun v t H3 s3 w3 at3 gt => ?_)⟩
    have e3 : H3 D = some (.lst vs) := s3 D _ nDW e1
    have zz : ∀ a, (a = D ∨ Trk H a) → Trk H' a := fun a h => by
      rcases h with rfl | h
      · exact .of e1
      · exact .well s1 w1 h
    refine ⟨vs, e3, by rw [a1.len, l1, sizeLine_eq]; omega, (s1.trans s3).upd_new hD _, w3.new hW hD _, vs ++ [v], ts ++ [t], upd_same, ?_, by rw [List.length_append, l1]; rfl, fun u hu => ?_⟩
    · have sD : SB (fun a => a = D ∨ Trk H a) H3 (upd H3 D (.lst (vs ++ [v]))) := .self (Z := fun a => a = D ∨ Trk H a) (.inl rfl) _
      refine AtAll.append ((a1.sb (s3.mono fun b e => .inr (by rw [show b = W from e]; exact hW.trk))).sb sD) (.cons ((at3.less zz).sb sD) .nil)
    · rcases List.mem_append.mp hu with hu | hu
      · exact g1 u hu
      · rw [List.mem_singleton.mp hu]; exact gt
  · obtain ⟨s1, w1, vs, ts, e1, a1, l1, g1⟩ := p
    exact hd D H' vs ts s1 w1 hD e1 a1 l1 g1
end KL
end
section
namespace KL
open PySem PySem.Spec PyProof.Rows L2
def anyB : Nat → Nat
  | 0 => 9
  | n + 1 => 3 * (anyB n + 1) + 5
theorem anyB_ge : ∀ d, 9 ≤ anyB d
  | 0 => Nat.le_refl _
  | d + 1 => by rw [anyB]; have := anyB_ge d; omega
/-- a new thing, of depth d -/
def spAny (n : Nat) : Sp := fun vs H Q _ => ∃ (W c : Addr) (d : Nat), vs = [.ref W, .int (d : Int)] ∧ WellAt W c H ∧ d < n ∧ ∀ v t H', SB (At1 W) H H' → WellAt W c H' → At (Trk H) H' t v → Gd (anyB d) (10 ^ 29) (2 * d) t → Q v H'
theorem decI {a b : Int} {A : Prop} (h : decide (V.int a = V.int b) = true) : a = b := by
  have e := of_decide_eq_true h
  injection e
theorem decI0 {a b : Int} (h : decide (V.int a = V.int b) = false) : a ≠ b := fun e => of_decide_eq_false h (congrArg V.int e)
theorem not_trk {W c : Addr} {H H' : Hp} {p : Addr} (s : SB (At1 W) H H') (w : WellAt W c H') (h : H' p = none) : ¬ Trk H p := fun t => (Trk.well s w t) h
section
variable {P : Program} {w : World} {K : PySem.W.Frag} {mg : Str → Option Value} {base : Heap} {k : Nat}
/-- a def that nobody may call yet -/
theorem Def.none {x : Str} {st : Stmt} {ps : List Str} {sp : Sp} {CX : CXT} (d : Def K mg x st ps) (no : ∀ vs H Q E, ¬ sp vs H Q E) : Cal P w K mg base CX k x ps sp := by
  obtain ⟨f, fd, F, m, b⟩ := d.ex
  exact ⟨f, fd, ⟨fun vs H Q E h => absurd h (no vs H Q E), fun A outer s H args us vs Q E _ _ _ _ h => absurd h (no vs H Q E)⟩, m, F.kp, b⟩
/-- how many nodes a thing has -/
def spNodes (n : Nat) : Sp := fun vs H Q _ => ∃ Z t v, vs = [v] ∧ At Z H t v ∧ dp t < n ∧ bk t ≤ 1000000 ∧ ∀ H', Same H H' → Q (.int (nod t : Nat)) H'
theorem dpL_mem : ∀ {xs : List Th} {t : Th}, t ∈ xs → dp t ≤ dpL xs
  | x :: xs, t, h => by
    rw [dpL]
    rcases List.mem_cons.mp h with rfl | h
    · omega
    · have := dpL_mem h; omega
theorem bkL_mem : ∀ {xs : List Th} {t : Th}, t ∈ xs → bk t + 1 ≤ bkL xs
  | x :: xs, t, h => by
    rw [bkL]
    rcases List.mem_cons.mp h with rfl | h
    · omega
    · have := bkL_mem h; omega
theorem nodL_sum : ∀ xs : List Th, ((xs.map fun t => ((nod t : Nat) : Int))).sum = (nodL xs : Nat)
  | [] => rfl
  | x :: xs => by
    rw [List.map_cons, List.sum_cons, nodL_sum xs, nodL]
    omega
end
end KL
end
section
namespace KL
open PySem PySem.Spec PyProof.Rows L2
/-! ### errors without a word -/
section
variable {X : Cx} {C : Addr} {bmB : List Value} {B newId initId : String} {x : Str} {p pos : Pos}
theorem pmk_bare (F : ExcBaseFacts B newId initId bmB) (q : PySem.W.excIn X.K C bmB newId = true) (gC : X.mg x = some (.ref C)) (kC : PySem.W.keepIn X.K (.ref C) = true) (r : Raises X (.ref C)) (hg : Gl X x)
    (dbg : (x == ("__debug__" : Str)) = false := by decide) : PMk X (.Call (.Name x p) [] [] pos) (fun _ H Q => Q (.ref C) none H) := by
  intro pins s σ H Q J h
  refine wpAny_Call_Name_kw (ld_glob J hg gC ?_ dbg)
  refine PySem.W.callWith_K0 J.kIn kC ?_
  obtain ⟨_, _, _, _, _, _, _, _, _, _, _, _, _, _, _, _, _, g1, g2, g3, g4⟩ := exc_obj J.kIn q
  refine wpAny_call_exc_subT F g4 g1 g2 g3 (fun h2 e2 m2 => ?_) (Nat.zero_le _)
  exact mk_of J m2 r h (J.hok.gone m2.new)
end
/-- the error class at C, by the module's name x -/
structure Er (K : PySem.W.Frag) (mg : Str → Option Value) (x : Str) (C : Addr) : Prop where
  g : mg x = some (.ref C)
  x : PySem.W.excIn K C [.type "ValueError", .type "Exception", .type "BaseException", .type "object"] "ValueError.__new__" = true
  k : PySem.W.keepIn K (.ref C) = true
  b : PySem.W.subIn K (.ref C) (.type "BaseException") = some true
  t : PySem.W.typeIn K (.ref C) = some (.type "type")
  e : PySem.W.exmOne K (.ref C) (.ref C) = some true
section
variable {P : Program} {w : World} {K : PySem.W.Frag} {mg : Str → Option Value} {base : Heap} {k : Nat}
/-- THE RULE for a def that may raise -/
theorem Def.okX {x : Str} {st : Stmt} {N ps : List Str} {sp : Sp} (d : Def K mg x st ps) (S : FnScope N ps (defScope st)) (len : ∀ vs H Q E, sp vs H Q E → vs.length = ps.length)
    (body : ∀ (f : Addr) (cdv : Value) (A : Around) (outer : List Env) (s : Shared) (H : Hp) (vs : List V) (Q : VK) (E : XK), Room k (A.deeper (envOfC x (defScope st) s.heap.objs.size f cdv)) → sp vs H Q E →
      ∃ t, PSs (cxOf (L2.CX P w) P w K mg base N x (defScope st) f cdv A outer s H E) (defBody st) t ∧ t { nx := fun _ H' => Q .non H', rt := Q } (start N vs) H) : Cal P w K mg base (L2.CX P w) (k + 1) x ps sp := by
  obtain ⟨f, fd, F, m, b⟩ := d.ex
  exact ⟨f, fd, F.okX S len (body f), m, F.kp, b⟩
end
section
variable {X : Cx} {k : Nat} {x : Str} {ps : List Str} {sp : Sp} {e : Expr} {es : List Expr} {t : TA} {p pos : Pos} {W : WX}
/-- a call of a def that may raise, within a try -/
theorem pe_calS (C : Cal X.prog X.w X.K X.mg X.base (L2.CX X.prog X.w) k x ps sp) (hr : Room k X.A) (hg : Gl X x) (tk : Takes X W) (ha : PA X (e :: es) t) (hdb : (x == ("__debug__" : Str)) = false := by decide)
    (he : starEach (e :: es) X.env = (false, eval e X.env) :: starEach es X.env := by rfl) (hpl : (backTo pos (starEach es X.env)).any (·.1) = false := by rfl) :
    PE X (.Call (.Name x p) (e :: es) [] pos) (tCallS sp (WE W) t) :=
  let ⟨_, _, F, m, kp, b⟩ := C.ex
  pe_callS F hr hg m kp b (fun σ => passAt tk σ) ha hdb he hpl
end
def spText (C : Addr) : Sp := fun vs H Q E => ∃ Z u v e d, vs = [u, v] ∧ At Z H e u ∧ At Z H d v ∧ shortT e = true ∧ shortT d = true ∧ (inn 1 8 e = true → ∀ H', Same H H' → Q (.bl (textB (num e) d)) H') ∧ (inn 1 8 e = false → ∀ H', Same H H' → E (.ref C) none H')
section
variable {P : Program} {w : World} {K : PySem.W.Frag} {mg : Str → Option Value} {base : Heap} {k : Nat}
def bit (c : Nat) : Bool := c == 48 || c == 49
def bitsB : Th → Bool
  | .str x => x.cps.toList.all bit
  | _ => false
theorem isS_str {d : Th} (h : isS d = true) : ∃ x, d = .str x := by cases d <;> first | exact ⟨_, rfl⟩ | cases h
theorem eq48 (c : Nat) : decide ((⟨#[c]⟩ : Str) = "0") = (c == 48) := by
  have e : ("0" : Str) = ⟨#[48]⟩ := by decide
  rw [e]
  by_cases h : c = 48
  · subst h; decide
  · rw [decide_eq_false (fun q => h (by injection q with q; injection q with q; injection q)), beq_eq_false_iff_ne.mpr h]
theorem eq49 (c : Nat) : decide ((⟨#[c]⟩ : Str) = "1") = (c == 49) := by
  have e : ("1" : Str) = ⟨#[49]⟩ := by decide
  rw [e]
  by_cases h : c = 49
  · subst h; decide
  · rw [decide_eq_false (fun q => h (by injection q with q; injection q with q; injection q)), beq_eq_false_iff_ne.mpr h]
theorem strV (x y : Str) : decide (V.str x = V.str y) = decide (x = y) := decide_eq_decide.mpr ⟨fun e => by injection e, fun e => congrArg V.str e⟩
theorem inV_bit (c : Nat) : inV (.str ⟨#[c]⟩) [.str "0", .str "1"] = bit c := by
  have h0 := eq48 c
  have h1 := eq49 c
  have f : ∀ a b : Str, (a == b) = decide (b = a) := fun a b => by
    rw [show (a == b) = decide (a = b) from rfl]
    exact decide_eq_decide.mpr ⟨Eq.symm, Eq.symm⟩
  show ((("0" : Str) == ⟨#[c]⟩) || ((("1" : Str) == ⟨#[c]⟩) || false)) = bit c
  rw [f, f, h0, h1, Bool.or_false]
  rfl
theorem short_str {x : Str} (h : shortT (.str x) = true) : x.cps.size ≤ 1000000 := by
  rw [shortT, decide_eq_true_eq] at h
  exact h
def longB (n : Int) : Th → Bool
  | .tup xs => decide ((xs.length : Int) = n)
  | _ => false
theorem long2 {d : Th} (h : longB 2 d = true) : ∃ a b, d = .tup [a, b] := isPair_tup (by
  cases d with
  | tup xs =>
    rw [longB, decide_eq_true_eq] at h
    rw [isPair, decide_eq_true_eq]
    omega
  | _ => cases h)
theorem notlong2 {d : Th} (h : longB 2 d = false) : isPair d = false := by
  cases d with
  | tup xs =>
    rw [longB, decide_eq_false_iff_not] at h
    rw [isPair, decide_eq_false_iff_not]
    omega
  | _ => rfl
theorem stepB_not {n : Int} {d : Th} (h : isPair d = false) : stepB n d = false := by
  cases d with
  | tup xs => match xs, h with
    | [], _ => rfl
    | [_], _ => rfl
    | [_, _], h => cases h
    | _ :: _ :: _ :: _, _ => rfl
  | _ => rfl
def snd : Th → Th
  | .tup [_, b] => b
  | _ => .non
theorem rowB_long {z n : Int} {d : Th} (h : (!(longB 2 d && longB z (snd d))) = true) : rowB z n d = false := by
  have h' := not_true h
  cases e : longB 2 d with
  | false => exact rowB_not (notlong2 e)
  | true =>
    obtain ⟨a, b, rfl⟩ := long2 e
    rw [e, Bool.true_and] at h'
    exact rowB_len (by
      rw [show snd (.tup [a, b]) = b from rfl] at h'
      cases b with
      | tup ss => rw [longB] at h'; rw [tlen, h']; rfl
      | _ => rfl)
theorem longB_tup {z : Int} {d : Th} (h : longB z d = true) : ∃ ss, d = .tup ss ∧ (ss.length : Int) = z := by
  cases d with
  | tup ss => rw [longB, decide_eq_true_eq] at h; exact ⟨ss, rfl, h⟩
  | _ => cases h
def fstT : Th → Th
  | .tup [a, _] => a
  | _ => .non
theorem machB_head {d : Th} (h : (!(longB 2 d && inn 1 8 (fstT d) && isT (snd d))) = true) : machB d = false := by
  have h' := not_true h
  cases e : longB 2 d with
  | false => exact machB_not (notlong2 e)
  | true =>
    obtain ⟨a, b, rfl⟩ := long2 e
    rw [e, Bool.true_and] at h'
    exact machB_size (by rw [show (inn 1 8 a && isT b) = false from h']; rfl)
def spTF : Sp := fun vs H Q _ => ∃ Z v d z, vs = [.int z, v] ∧ At Z H d v ∧ shortT d = true ∧ ∀ H', Same H H' → Q (.bl (textB z d)) H'
end
end KL
end
section
set_option maxHeartbeats 1000000
namespace KL
open PySem PySem.Spec PyProof.Rows L2
/-! ### tuples of things cut, put together, doubled -/
theorem bkL_take : ∀ (n : Nat) (xs : List Th), bkL (xs.take n) ≤ bkL xs
  | 0, xs => by rw [List.take_zero]; exact Nat.zero_le _
  | n + 1, [] => Nat.le_refl _
  | n + 1, x :: xs => by rw [List.take_succ_cons, bkL, bkL]; have := bkL_take n xs; omega
theorem bkL_drop : ∀ (n : Nat) (xs : List Th), bkL (xs.drop n) ≤ bkL xs
  | 0, xs => Nat.le_refl _
  | n + 1, [] => Nat.le_refl _
  | n + 1, x :: xs => by rw [List.drop_succ_cons, bkL]; have := bkL_drop n xs; omega
theorem lfL_take {M : Nat} : ∀ (n : Nat) (xs : List Th), lfL M xs = true → lfL M (xs.take n) = true
  | 0, xs, _ => by rw [List.take_zero]; rfl
  | n + 1, [], h => h
  | n + 1, x :: xs, h => by
    rw [lfL, Bool.and_eq_true] at h
    rw [List.take_succ_cons, lfL, h.1, lfL_take n xs h.2]
    rfl
theorem lfL_drop {M : Nat} : ∀ (n : Nat) (xs : List Th), lfL M xs = true → lfL M (xs.drop n) = true
  | 0, xs, h => h
  | n + 1, [], h => h
  | n + 1, x :: xs, h => by
    rw [lfL, Bool.and_eq_true] at h
    exact lfL_drop n xs h.2
theorem dpL_take : ∀ (n : Nat) (xs : List Th), dpL (xs.take n) ≤ dpL xs
  | 0, xs => by rw [List.take_zero]; exact Nat.zero_le _
  | n + 1, [] => Nat.le_refl _
  | n + 1, x :: xs => by rw [List.take_succ_cons, dpL, dpL]; have := dpL_take n xs; omega
theorem dpL_drop : ∀ (n : Nat) (xs : List Th), dpL (xs.drop n) ≤ dpL xs
  | 0, xs => Nat.le_refl _
  | n + 1, [] => Nat.le_refl _
  | n + 1, x :: xs => by rw [List.drop_succ_cons, dpL]; have := dpL_drop n xs; omega
theorem GdL.take {B M D : Nat} {ts : List Th} (g : GdL B M D ts) (n : Nat) : GdL B M D (ts.take n) := ⟨Nat.le_trans (bkL_take n ts) g.b, lfL_take n ts g.m, Nat.le_trans (dpL_take n ts) g.d⟩
theorem GdL.drop {B M D : Nat} {ts : List Th} (g : GdL B M D ts) (n : Nat) : GdL B M D (ts.drop n) := ⟨Nat.le_trans (bkL_drop n ts) g.b, lfL_drop n ts g.m, Nat.le_trans (dpL_drop n ts) g.d⟩
theorem Gd.items {B M D : Nat} {ts : List Th} (g : Gd B M D (.tup ts)) : GdL B M (D - 1) ts := ⟨g.b, g.m, by have := g.d; rw [dp] at this; omega⟩
theorem lfL_mem {M : Nat} : ∀ {xs : List Th} {t : Th}, t ∈ xs → lfL M xs = true → lf M t = true
  | x :: xs, t, h, e => by
    rw [lfL, Bool.and_eq_true] at e
    rcases List.mem_cons.mp h with rfl | h
    · exact e.1
    · exact lfL_mem h e.2
theorem GdL.item {B M D : Nat} {ts : List Th} {t : Th} (g : GdL B M D ts) (h : t ∈ ts) : Gd B M D t := ⟨by have := bkL_mem h; have := g.b; omega, lfL_mem h g.m, Nat.le_trans (dpL_mem h) g.d⟩
theorem ne_new {W p : Addr} {H : Hp} (w : Trk H W) (h : H p = none) : p ≠ W := fun e => w (e ▸ h)
def rSlG (K : PySem.W.Frag) : V → Option Int → Option Int → Hp → VK → Prop := fun x lo hi H Q => ∃ W ds B M D, At (At1 W) H (.tup ds) x ∧ Trk H W ∧ GdL B M D ds ∧ ∀ v es H', Same H H' → At (At1 W) H' (.tup es) v → GdL B M D es → Q v H'
def rCatG (K : PySem.W.Frag) : R2 := fun x y H Q => ∃ W ds es B C M D, At (At1 W) H (.tup ds) x ∧ At (At1 W) H (.tup es) y ∧ Trk H W ∧ GdL B M D ds ∧ GdL C M D es ∧ B + C ≤ 1000000 ∧ ∀ v us H', Same H H' → At (At1 W) H' (.tup us) v → GdL (B + C) M D us → Q v H'
def rRepG (K : PySem.W.Frag) : R2 := fun x y H Q => ∃ W ds B M D, y = .int 2 ∧ At (At1 W) H (.tup ds) x ∧ Trk H W ∧ GdL B M D ds ∧ B ≤ 1000000 ∧ ∀ v us H', Same H H' → At (At1 W) H' (.tup us) v → GdL (B + B) M D us → Q v H'
section
variable {X : Cx}
theorem sl_thing : SlR X (rSlG X.K) := by
  intro pins s σ H x v vl vu lo hi sl Q I rx hs pl pu h
  refine sl_tupA pins s σ H x v vl vu lo hi sl Q I rx hs pl pu ?_
  obtain ⟨W, ds, B, M, D, h, hW, g, q⟩ := h
  obtain ⟨a, vs, rfl, na, e, ha⟩ := id h
  refine ⟨a, vs, rfl, .of e, fun _ => q _ ds H (Same.refl H) h g, fun _ p hp => ?_⟩
  have sp := same_new hp (.tup (cutV vs lo hi))
  exact q _ _ _ sp ⟨p, _, rfl, ne_new hW hp, upd_same, ((ha.drop _).take _).same sp⟩ ((g.drop _).take _)
theorem op_catG : OpR X (binaryOp .Add) (rCatG X.K) := by
  intro pins s σ H x y v u Q I rx ry h
  refine op_catA pins s σ H x y v u Q I rx ry ?_
  obtain ⟨W, ds, es, B, C, M, D, h1, h2, hW, g1, g2, hz, q⟩ := h
  obtain ⟨a, vs, rfl, na, e1, a1⟩ := id h1
  obtain ⟨b, us, rfl, nb, e2, a2⟩ := id h2
  have l1 := len_bkL ds
  have l2 := len_bkL es
  have b1 := g1.b
  have b2 := g2.b
  refine ⟨a, b, vs, us, rfl, rfl, .of e1, .of e2, by rw [a1.len, a2.len, sizeLine_eq]; omega, fun z => ?_, fun _ z => ?_, fun _ _ p hp => ?_⟩
  · exact q _ es H (Same.refl H) h2 (g2.mono (Nat.le_add_left _ _) (Nat.le_refl _) (Nat.le_refl _))
  · exact q _ ds H (Same.refl H) h1 (g1.mono (Nat.le_add_right _ _) (Nat.le_refl _) (Nat.le_refl _))
  · have sp := same_new hp (.tup (vs ++ us))
    exact q _ (ds ++ es) _ sp ⟨p, _, rfl, ne_new hW hp, upd_same, (a1.append a2).same sp⟩ (g1.append g2)
theorem op_repG : OpR X (binaryOp .Mult) (rRepG X.K) := by
  intro pins s σ H x y v u Q I rx ry h
  refine op_rep2 pins s σ H x y v u Q I rx ry ?_
  obtain ⟨W, ds, B, M, D, rfl, h1, hW, g1, hz, q⟩ := h
  obtain ⟨a, vs, rfl, na, e1, a1⟩ := id h1
  have l1 := len_bkL ds
  have b1 := g1.b
  refine ⟨a, vs, rfl, rfl, .of e1, by rw [a1.len]; omega, fun z => ?_, fun _ p hp => ?_⟩
  · exact q _ ds H (Same.refl H) h1 (g1.mono (Nat.le_add_left _ _) (Nat.le_refl _) (Nat.le_refl _))
  · have sp := same_new hp (.tup (vs ++ vs))
    exact q _ (ds ++ ds) _ sp ⟨p, _, rfl, ne_new hW hp, upd_same, (a1.append a1).same sp⟩ (g1.append g1)
end
/-! ### texts -/
theorem asc_app {x y : Str} (hx : (x.cps.toList.all fun c => decide (c < 128)) = true) (hy : (y.cps.toList.all fun c => decide (c < 128)) = true) : ((x ++ y).cps.toList.all fun c => decide (c < 128)) = true := by
  show ((x.cps ++ y.cps).toList.all fun c => decide (c < 128)) = true
  rw [Array.toList_append, List.all_append, hx, hy]
  rfl
theorem size_app (x y : Str) : (x ++ y).cps.size = x.cps.size + y.cps.size := Array.size_append
theorem asc_cut {x : Str} (lo hi : Option Int) (hx : (x.cps.toList.all fun c => decide (c < 128)) = true) : ((cutS x lo hi).cps.toList.all fun c => decide (c < 128)) = true := by
  unfold cutS
  rw [List.all_eq_true] at hx ⊢
  intro c hc
  exact hx c (List.mem_of_mem_drop (List.mem_of_mem_take (by simpa using hc)))
theorem size_cut (x : Str) (lo hi : Option Int) : (cutS x lo hi).cps.size ≤ x.cps.size := by
  unfold cutS
  rw [List.size_toArray, List.length_take, List.length_drop, Array.length_toList]
  omega
/-- what a changed thing is -/
def spChanged : Sp := fun vs H Q _ => ∃ (W c : Addr) (t : Th) (v : V) (B M D : Nat), vs = [v, .ref W] ∧ WellAt W c H ∧ At (At1 W) H t v ∧ Gd B M D t ∧ B ≤ 100000 ∧ 10 ^ 29 ≤ M ∧
  ∀ v' t' H', SB (At1 W) H H' → WellAt W c H' → At (At1 W) H' t' v' → Gd (2 * B + 40) (M + 1) (D + 3) t' → Q v' H'
theorem _root_.L2.Same.trk {H H' : Hp} (s : Same H H') {a : Addr} (h : Trk H a) : Trk H' a := Trk.same s h
section
variable {P : Program} {w : World} {K : PySem.W.Frag} {mg : Str → Option Value} {base : Heap} {k : Nat}
theorem At.tup2 {W p : Addr} {H : Hp} {a b : Th} {u v : V} (n : p ≠ W) (e : H p = some (.tup [u, v])) (ha : At (At1 W) H a u) (hb : At (At1 W) H b v) : At (At1 W) H (.tup [a, b]) (.ref p) := ⟨p, _, rfl, n, e, .cons ha (.cons hb .nil)⟩
theorem At.tup1 {W p : Addr} {H : Hp} {a : Th} {u : V} (n : p ≠ W) (e : H p = some (.tup [u])) (ha : At (At1 W) H a u) : At (At1 W) H (.tup [a]) (.ref p) := ⟨p, _, rfl, n, e, .cons ha .nil⟩
theorem At.tup0 {W p : Addr} {H : Hp} (n : p ≠ W) (e : H p = some (.tup [])) : At (At1 W) H (.tup []) (.ref p) := ⟨p, _, rfl, n, e, .nil⟩
theorem Gd.weak {B M D B' M' D' : Nat} {t : Th} (g : Gd B M D t) (h : B ≤ B' ∧ M ≤ M' ∧ D ≤ D') : Gd B' M' D' t := g.mono h.1 h.2.1 h.2.2
end
end KL
end
section
set_option maxHeartbeats 1000000
namespace KL
open PySem PySem.Spec PyProof.Rows L2
def spB (n B : Nat) : Nat := (2 * n + 2) * B + 40 + n
theorem spB_succ (n B : Nat) : B + (spB n B + 1 + 0) + B = spB (n + 1) B := by
  unfold spB
  have e : (2 * (n + 1) + 2) * B = (2 * n + 2) * B + B + B := by
    rw [show 2 * (n + 1) + 2 = (2 * n + 2) + 1 + 1 by omega, Nat.add_mul, Nat.add_mul, Nat.one_mul]
  omega
theorem spB_base (n B : Nat) : 2 * B + 40 ≤ spB n B := by
  unfold spB
  have : 2 * B ≤ (2 * n + 2) * B := Nat.mul_le_mul_right _ (by omega)
  omega
theorem nod_two {t : Th} (h : 1 < nod t) : ∃ xs, t = .tup xs := by
  cases t <;> first | exact ⟨_, rfl⟩ | (rw [nod] at h <;> first | omega | (intro xs e; cases e))
def spSpoilt (N : Nat) : Sp := fun vs H Q _ => ∃ (W c : Addr) (t : Th) (v : V) (a : Int) (B M D n : Nat), vs = [v, .int a, .ref W] ∧ n ≤ N ∧ dp t < n ∧ WellAt W c H ∧ At (At1 W) H t v ∧ Gd B M D t ∧ 0 ≤ a ∧ a < (nod t : Int) ∧ B ≤ 100000 ∧ spB n B ≤ 1000000 ∧ 10 ^ 29 ≤ M ∧
  ∀ v' t' H', SB (At1 W) H H' → WellAt W c H' → At (At1 W) H' t' v' → Gd (spB n B) (M + 1) (D + 3) t' → Q v' H'
section
variable {P : Program} {w : World} {K : PySem.W.Frag} {mg : Str → Option Value} {base : Heap} {k : Nat}
end
end KL
end
section
set_option maxHeartbeats 1000000
namespace KL
open PySem PySem.Spec PyProof.Rows L2
def spMore : Sp := fun vs H Q _ => ∃ (W c : Addr), vs = [.ref W] ∧ WellAt W c H ∧ ∀ (r : Int) H', 0 ≤ r → r ≤ 60 → SB (At1 W) H H' → WellAt W c H' → Q (.int r) H'
def spStep : Sp := fun vs H Q _ => ∃ (W c : Addr) (s l : Int), vs = [.ref W, .int s, .int l] ∧ WellAt W c H ∧ 1 ≤ s ∧ s ≤ 30 ∧ ∀ v t H', SB (At1 W) H H' → WellAt W c H' → At (Trk H) H' t v → (Gd 2 60 1 t ∧ stepO s t = true) → Q v H'
def spEnd : Sp := fun vs H Q _ => ∃ (W c : Addr) (l : Int), vs = [.ref W, .int l] ∧ WellAt W c H ∧ ∀ v t H', SB (At1 W) H H' → WellAt W c H' → (∀ Z, At Z H' t v) → (Gd 0 60 0 t ∧ (isNon t || inn 1 60 t) = true) → Q v H'
def spMach : Sp := fun vs H Q _ => ∃ (W c : Addr), vs = [.ref W] ∧ WellAt W c H ∧ ∀ v t H', SB (At1 W) H H' → WellAt W c H' → At (Trk H) H' t v → (Gd 1000 60 5 t ∧ machB t = true) → Q v H'
section
variable {P : Program} {w : World} {K : PySem.W.Frag} {mg : Str → Option Value} {base : Heap} {k : Nat}
theorem flag_ix (k : Bool) : 0 ≤ (if k = true then (1 : Int) else 0) ∧ (if k = true then (1 : Int) else 0) < 2 := by cases k <;> decide
end
end KL
end
section
set_option maxHeartbeats 1000000
namespace KL
open PySem PySem.Spec PyProof.Rows L2
/-! ### machines read -/
def stepsOf : Th → List Th
  | .tup [_, .tup ss] => ss
  | _ => []
def endOf : Th → Th
  | .tup [e, _] => e
  | _ => .non
def stepAt (rows : List Th) (s l : Nat) : Th := ((stepsOf ((rows[s]?).getD .non))[l]?).getD .non
/-- from the state s, with m so far: what all letters take, and the state behind them, none where a step lacks -/
def rdT (rows : List Th) : Nat → Int → List Th → Int × Option Nat
  | s, m, [] => (m, some s)
  | s, m, l :: ls => match stepAt rows s (num l).toNat with
    | .tup [.int d, .int s'] => rdT rows s'.toNat (m + d) ls
    | _ => (m, none)
def lastT (rows : List Th) : Int × Option Nat → Option Int
  | (m, some s) => match endOf ((rows[s]?).getD .non) with
    | .int e => some (m + e)
    | _ => none
  | (_, none) => none
def lenT (rows ls : List Th) : Option Int := lastT rows (rdT rows 0 0 ls)
def optV : Option Int → V
  | some i => .int i
  | none => .non
def optS : Option Nat → V
  | some i => .int (i : Nat)
  | none => .non
structure MOk (z : Int) (rows : List Th) : Prop where
  z1 : 1 ≤ z
  z8 : z ≤ 8
  n1 : 1 ≤ rows.length
  n30 : rows.length ≤ 30
  r : ∀ r ∈ rows, rowB z (rows.length : Int) r = true
theorem machB_ok {t : Th} (h : machB t = true) : ∃ z rows, t = .tup [.int z, .tup rows] ∧ MOk z rows := by
  cases t with
  | tup xs =>
    match xs, h with
    | [a, .tup rows], h =>
      rw [machB, Bool.and_eq_true, Bool.and_eq_true, Bool.and_eq_true, decide_eq_true_eq, decide_eq_true_eq, List.all_eq_true] at h
      obtain ⟨⟨⟨h1, h2⟩, h3⟩, h4⟩ := h
      obtain ⟨z, rfl, z1, z8⟩ := inn_int h1
      exact ⟨z, rows, rfl, z1, z8, h2, h3, h4⟩
  | _ => cases h
theorem MOk.mach {z : Int} {rows : List Th} (m : MOk z rows) : machB (.tup [.int z, .tup rows]) = true := by
  rw [machB, Bool.and_eq_true, Bool.and_eq_true, Bool.and_eq_true, decide_eq_true_eq, decide_eq_true_eq, List.all_eq_true]
  exact ⟨⟨⟨by rw [inn, decide_eq_true m.z1, decide_eq_true m.z8]; rfl, m.n1⟩, m.n30⟩, m.r⟩
/-- what a step is -/
def StepIs (n : Int) (st : Th) : Prop := st = .non ∨ ∃ m s, st = .tup [.int m, .int s] ∧ 0 ≤ m ∧ m ≤ 60 ∧ 0 ≤ s ∧ s < n
theorem stepO_is {n : Int} {st : Th} (h : stepO n st = true) : StepIs n st := by
  cases st with
  | non => exact .inl rfl
  | tup xs =>
    match xs, h with
    | [a, b], h =>
      have h' : (inn 0 60 a && inn 0 (n - 1) b) = true := h
      rw [Bool.and_eq_true] at h'
      obtain ⟨m, rfl, m0, m1⟩ := inn_int h'.1
      obtain ⟨s, rfl, s0, s1⟩ := inn_int h'.2
      exact .inr ⟨m, s, rfl, m0, m1, s0, by omega⟩
  | _ => cases h
theorem StepIs.o {n : Int} {st : Th} (h : StepIs n st) : stepO n st = true := by
  rcases h with rfl | ⟨m, s, rfl, m0, m1, s0, s1⟩
  · rfl
  · show (inn 0 60 (.int m) && inn 0 (n - 1) (.int s)) = true
    rw [inn, inn, decide_eq_true m0, decide_eq_true m1, decide_eq_true s0, decide_eq_true (show s ≤ n - 1 by omega)]
    rfl
theorem rowB_is {z n : Int} {r : Th} (h : rowB z n r = true) : ∃ e ss, r = .tup [e, .tup ss] ∧ (e = .non ∨ ∃ i, e = .int i ∧ 1 ≤ i ∧ i ≤ 60) ∧ (ss.length : Int) = z ∧ ∀ st ∈ ss, StepIs n st := by
  cases r with
  | tup xs =>
    match xs, h with
    | [e, .tup ss], h =>
      rw [rowB, Bool.and_eq_true, Bool.and_eq_true, decide_eq_true_eq, List.all_eq_true] at h
      obtain ⟨⟨h1, h2⟩, h3⟩ := h
      refine ⟨e, ss, rfl, ?_, h2, fun st m => stepO_is (h3 st m)⟩
      rw [Bool.or_eq_true] at h1
      rcases h1 with h1 | h1
      · cases e <;> first | exact .inl rfl | cases h1
      · obtain ⟨i, rfl, i1, i2⟩ := inn_int h1
        exact .inr ⟨i, rfl, i1, i2⟩
  | _ => cases h
theorem rowB_of {z n : Int} {e : Th} {ss : List Th} (h1 : e = .non ∨ ∃ i, e = .int i ∧ 1 ≤ i ∧ i ≤ 60) (h2 : (ss.length : Int) = z) (h3 : ∀ st ∈ ss, StepIs n st) : rowB z n (.tup [e, .tup ss]) = true := by
  rw [rowB, Bool.and_eq_true, Bool.and_eq_true, decide_eq_true_eq, List.all_eq_true]
  refine ⟨⟨?_, h2⟩, fun st m => (h3 st m).o⟩
  rcases h1 with rfl | ⟨i, rfl, i1, i2⟩
  · rfl
  · rw [inn, decide_eq_true i1, decide_eq_true i2]; rfl
theorem MOk.row {z : Int} {rows : List Th} (m : MOk z rows) {s : Nat} (hs : s < rows.length) : ∃ e ss, rows[s]? = some (.tup [e, .tup ss]) ∧ (e = .non ∨ ∃ i, e = .int i ∧ 1 ≤ i ∧ i ≤ 60) ∧ (ss.length : Int) = z ∧ ∀ st ∈ ss, StepIs (rows.length : Int) st := by
  obtain ⟨e, ss, e1, h1, h2, h3⟩ := rowB_is (m.r rows[s] (List.getElem_mem hs))
  exact ⟨e, ss, by rw [List.getElem?_eq_getElem hs, e1], h1, h2, h3⟩
theorem At.mach {Z : Zone} {H : Hp} {z : Int} {rows : List Th} {v : V} (h : At Z H (.tup [.int z, .tup rows]) v) : ∃ p pr us, v = .ref p ∧ H p = some (.tup [.int z, .ref pr]) ∧ H pr = some (.tup us) ∧ AtAll Z H rows us ∧ ¬ Z pr := by
  obtain ⟨p, u, w', rfl, e, h1, h2⟩ := h.pair
  cases h1
  obtain ⟨pr, us, rfl, n, e2, a⟩ := h2
  exact ⟨p, pr, us, rfl, e, e2, a, n⟩
/-- a row as it lies -/
theorem row_at {Z : Zone} {H : Hp} {z : Int} {rows : List Th} {us : List V} {s : Nat} (a : AtAll Z H rows us) (m : MOk z rows) (hs : s < rows.length) :
    ∃ pu ve ps vs e ss, us[s]? = some (.ref pu) ∧ H pu = some (.tup [ve, .ref ps]) ∧ H ps = some (.tup vs) ∧ rows[s]? = some (.tup [e, .tup ss]) ∧ At Z H e ve ∧ ((e = .non ∧ ve = .non) ∨ ∃ i, e = .int i ∧ ve = .int i) ∧ (ss.length : Int) = z ∧ AtAll Z H ss vs ∧ (∀ st ∈ ss, StepIs (rows.length : Int) st) := by
  obtain ⟨e, ss, er, h1, h2, h3⟩ := m.row hs
  obtain ⟨u, eu, hu⟩ := a.at er
  obtain ⟨pu, ve, w', rfl, e1, b1, b2⟩ := hu.pair
  obtain ⟨ps, vs, rfl, _, e2, b3⟩ := b2
  refine ⟨pu, ve, ps, vs, e, ss, eu, e1, e2, er, b1, ?_, h2, b3, h3⟩
  rcases h1 with rfl | ⟨i, rfl, _⟩
  · exact .inl ⟨rfl, b1⟩
  · exact .inr ⟨i, rfl, b1⟩
/-- a step as it lies -/
theorem step_at {Z : Zone} {H : Hp} {rows ss : List Th} {vs : List V} {s l : Nat} {e : Th} {n : Int} (er : rows[s]? = some (.tup [e, .tup ss])) (a : AtAll Z H ss vs) (h : ∀ st ∈ ss, StepIs n st) (hl : l < ss.length) :
    ∃ w, vs[l]? = some w ∧ ((stepAt rows s l = .non ∧ w = .non) ∨ ∃ q m s', stepAt rows s l = .tup [.int m, .int s'] ∧ w = .ref q ∧ H q = some (.tup [.int m, .int s']) ∧ ¬ Z q ∧ 0 ≤ m ∧ m ≤ 60 ∧ 0 ≤ s' ∧ s' < n) := by
  have es : stepAt rows s l = ss[l] := by
    unfold stepAt
    rw [er]
    show ((ss)[l]?).getD .non = ss[l]
    rw [List.getElem?_eq_getElem hl]
    rfl
  obtain ⟨w, ew, hw⟩ := a.at (List.getElem?_eq_getElem hl)
  refine ⟨w, ew, ?_⟩
  rw [es]
  rcases h ss[l] (List.getElem_mem hl) with z | ⟨m, s', z, m0, m1, s0, s1⟩
  · rw [z] at hw ⊢
    exact .inl ⟨rfl, hw⟩
  · rw [z] at hw ⊢
    obtain ⟨q, us, rfl, nq, eq', a1⟩ := hw
    obtain ⟨u1, us1, rfl, r1, a2⟩ := a1
    obtain ⟨u2, us2, rfl, r2, a3⟩ := a2
    cases r1; cases r2
    rw [show us2 = [] from a3] at eq'
    exact .inr ⟨q, m, s', rfl, rfl, eq', nq, m0, m1, s0, s1⟩
theorem atI_n {us : List V} {s : Nat} {v : V} (h : us[s]? = some v) : atI us ((s : Nat) : Int) = some v := atI_nat h
theorem textB_ls {z : Int} {d : Th} (h : textB z d = true) : ∃ ls, d = .tup ls ∧ ∀ l ∈ ls, ∃ i, l = .int i ∧ 0 ≤ i ∧ i < z := by
  cases d with
  | tup ls =>
    rw [textB, List.all_eq_true] at h
    refine ⟨ls, rfl, fun l m => ?_⟩
    obtain ⟨i, rfl, i0, i1⟩ := inn_int (h l m)
    exact ⟨i, rfl, i0, by omega⟩
  | _ => cases h
theorem textB_of {z : Int} {ls : List Th} (h : ∀ l ∈ ls, ∃ i, l = .int i ∧ 0 ≤ i ∧ i < z) : textB z (.tup ls) = true := by
  rw [textB, List.all_eq_true]
  intro l m
  obtain ⟨i, rfl, i0, i1⟩ := h l m
  rw [inn, decide_eq_true i0, decide_eq_true (show i ≤ z - 1 by omega)]
  rfl
abbrev sc_demand_machineN : List Str := ["thing"]
abbrev s_demand_machine : Stmt := topS 17
theorem sc_demand_machine : FnScope ["thing"] ["thing"] (defScope s_demand_machine) := ⟨rfl, rfl, rfl, by decide +kernel, rfl, by decide +kernel, by decide +kernel⟩
def spDemand (C : Addr) : Sp := fun vs H Q E => ∃ Z u e, vs = [u] ∧ At Z H e u ∧ shortT e = true ∧ (machB e = true → ∀ H', Same H H' → Q .non H') ∧ (machB e = false → ∀ H', Same H H' → E (.ref C) none H')
def spLength (CM CT : Addr) : Sp := fun vs H Q E => ∃ Z u v e d, vs = [u, v] ∧ At Z H e u ∧ At Z H d v ∧ shortT e = true ∧ shortT d = true ∧
  (∀ z rows ls, e = .tup [.int z, .tup rows] → MOk z rows → d = .tup ls → textB z d = true → ∀ H', Same H H' → Q (optV (lenT rows ls)) H') ∧ (∀ z rows, e = .tup [.int z, .tup rows] → MOk z rows → textB z d = false → ∀ H', Same H H' → E (.ref CT) none H') ∧ (machB e = false → ∀ H', Same H H' → E (.ref CM) none H')
section
variable {X : Cx} {k : Nat} {x : Str} {ps : List Str} {sp : Sp} {e : Expr} {es : List Expr} {t : TA} {p pos : Pos} {E : XK}
/-- a call of a def that may raise, in a def that lets it out -/
theorem pe_calE (C : Cal X.prog X.w X.K X.mg X.base (L2.CX X.prog X.w) k x ps sp) (hr : Room k X.A) (hg : Gl X x) (tk : Takes X (fun cls d _ H => E cls d H)) (ha : PA X (e :: es) t) (hdb : (x == ("__debug__" : Str)) = false := by decide)
    (he : starEach (e :: es) X.env = (false, eval e X.env) :: starEach es X.env := by rfl) (hpl : (backTo pos (starEach es X.env)).any (·.1) = false := by rfl) :
    PE X (.Call (.Name x p) (e :: es) [] pos) (tCall sp [] E t) :=
  let ⟨_, _, F, m, kp, b⟩ := C.ex
  pe_call F hr hg m kp b .nil (passes_call tk fun _ _ _ _ h => h) ha hdb he hpl
end
section
variable {P : Program} {w : World} {K : PySem.W.Frag} {mg : Str → Option Value} {base : Heap} {k : Nat}
theorem ok_demand_machine {C : Addr} (T : Er K mg "NoMachine" C) (c_is_machine : Cal P w K mg base CX0 k "is_machine" ["thing"] (spTh machB)) (d : Def K mg "demand_machine" s_demand_machine ["thing"]) : Cal P w K mg base (L2.CX P w) (k + 1) "demand_machine" ["thing"] (spDemand C) := by
  refine d.okX sc_demand_machine (fun vs H Q E h => ?_) (fun f cdv A outer s H vs Q E hr h => ?_)
  · obtain ⟨_, _, _, rfl, _⟩ := h; rfl
  obtain ⟨Zn, u, e, rfl, hu, se, q1, q0⟩ := h
  refine ⟨_, (pss_one (ps_if (pt_not (pt_val (pe_cal c_is_machine hr (by rfl) (pa_cons (pv 0) pa_nil)))) (pss_one (ps_raise rfl (takes_of rfl rfl rfl rfl) (pmk_bare PySem.F.excBase_ValueError T.x T.g T.k (raises_own T.b T.t) (by exact rfl)))) pss_nil)), ?_⟩
  refine ⟨u, rfl, Zn, u, e, rfl, hu, se, fun H1 s1 => ⟨_, rfl, iteB (fun e1 => ?_) (fun e1 => ?_)⟩⟩
  · exact q0 (not_true e1) H1 s1
  · exact q1 (not_false' e1) H1 s1
end
end KL
end
section
set_option maxHeartbeats 1000000
namespace KL
open PySem PySem.Spec PyProof.Rows L2
abbrev sc_spreadN : List Str := ["starts", "ways", "found", "start", "waiting", "at", "state"]
abbrev s_spread : Stmt := topS 23
theorem sc_spread : FnScope ["starts", "ways", "found", "start", "waiting", "at", "state"] ["starts", "ways"] (defScope s_spread) := ⟨rfl, rfl, rfl, by decide +kernel, rfl, by decide +kernel, by decide +kernel⟩
abbrev nV (n : Nat) : V := .int (n : Nat)
/-- a list of lists of numbers -/
def LL (H : Hp) (W : Addr) (ways : List (List Nat)) : Prop := ∃ as : List Addr, H W = some (.lst (as.map V.ref)) ∧ as.length = ways.length ∧ ∀ (i : Nat) (a : Addr) (ws : List Nat), as[i]? = some a → ways[i]? = some ws → H a = some (.lst (ws.map nV))
theorem LL.same {H H' : Hp} {W : Addr} {ways : List (List Nat)} (h : LL H W ways) (s : Same H H') : LL H' W ways :=
  let ⟨as, e, l, q⟩ := h
  ⟨as, s _ _ e, l, fun i a ws ha hw => s _ _ (q i a ws ha hw)⟩
def spSpread : Sp := fun vs H Q _ => ∃ (S W : Addr) (starts : List Nat) (ways : List (List Nat)), vs = [.ref S, .ref W] ∧ H S = some (.lst (starts.map nV)) ∧ LL H W ways ∧ ways.length ≤ 1000 ∧ starts.length ≤ 1000 ∧ (∀ s ∈ starts, s < ways.length) ∧ (∀ (i : Nat) (ws : List Nat), ways[i]? = some ws → ∀ t ∈ ws, t < ways.length) ∧
  ∀ (F : Addr) (fl : List Bool) (H' : Hp), Same H H' → H F = none → H' F = some (.lst (fl.map V.bl)) → fl.length = ways.length → (∀ i : Nat, fl[i]? = some true ↔ RS ways starts i) → Q (.ref F) H'
theorem map_get {α β : Type} {f : α → β} {l : List α} {i : Nat} {x : β} (h : (l.map f)[i]? = some x) : ∃ y, l[i]? = some y ∧ x = f y := by
  rw [List.getElem?_map] at h
  obtain ⟨y, e, r⟩ := Option.map_eq_some_iff.mp h
  exact ⟨y, e, r.symm⟩
theorem get_map {α β : Type} {f : α → β} {l : List α} {i : Nat} {y : α} (h : l[i]? = some y) : (l.map f)[i]? = some (f y) := by
  rw [List.getElem?_map, h]; rfl
theorem ixT {n j : Nat} (hj : j < n) : ixN n (j : Int) = some j := by
  unfold ixN
  rw [if_pos (by omega), if_pos (by omega)]
  simp
section
variable {P : Program} {w : World} {K : PySem.W.Frag} {mg : Str → Option Value} {base : Heap} {k : Nat}
theorem ok_spread (Z : Zs mg) (d : Def K mg "spread" s_spread ["starts", "ways"]) : Cal P w K mg base CX0 (k + 1) "spread" ["starts", "ways"] spSpread := by
  refine d.ok sc_spread (fun vs H Q E h => ?_) (fun f cdv A outer s H vs Q E hr h => ?_)
  · obtain ⟨_, _, _, _, rfl, _⟩ := h; rfl
  obtain ⟨S, W, starts, ways, rfl, eS, hW, b1, b2, hs, wf, q⟩ := h
  refine ⟨_, (pss_cons (ps_setLc (i := 2) (own := [("state", 6)]) (g := gName 6) (tt := tYes) rfl sc_spread.nd rfl rfl (sw_true rfl rfl rfl (by decide +kernel)) (pi_list (pv 1)) (blkOk_by (N := ["starts", "ways", "found", "start", "waiting", "at", "state"]) (sc := defScope s_spread) (by decide +kernel)) (fun _ _ _ _ _ => (pg_name (i := 6) sc_spread.nd rfl (Or.inl rfl))) (fun _ _ _ _ _ => pts_nil) (fun _ _ _ _ _ => pe_bl))
      (pss_cons (ps_for PassesOwn.never rfl (pi_list (pv 0)) (pg_name (i := 3) sc_spread.nd rfl (Or.inl rfl)) (pss_one (ps_asg pe_bl (pg_sub (pv 2) (pv 3) set_list))))
      (pss_cons (ps_set (i := 4) sc_spread.nd rfl (Or.inl rfl) (pe_callTy (T := "list") call_list_of (by rfl) Z.list (by decide +kernel) (pa_cons (pv 0) pa_nil)))
      (pss_cons (ps_while PassesOwn.never (pt_truth (pv 4) (by intro _; rfl)) (pss_cons (ps_set (i := 5) sc_spread.nd rfl (Or.inl rfl) (pe_bm0 PySem.F.plainAttrs_list PySem.F.slot_list_pop PySem.F.type_list_pop mt_pop (pv 4)))
      (pss_one (ps_for PassesOwn.never rfl (pi_list (pe_ix ix_list (pv 1) (pv 5) (fun _ _ => rfl))) (pg_name (i := 6) sc_spread.nd rfl (Or.inl rfl)) (pss_one (ps_if (pt_not (pt_val (pe_ix ix_list (pv 2) (pv 6) (fun _ _ => rfl)))) (pss_cons (ps_asg pe_bl (pg_sub (pv 2) (pv 6) set_list))
      (pss_one (ps_expr (pe_bm PySem.F.plainAttrs_list PySem.F.slot_list_append PySem.F.type_list_append mt_append (pv 4) (pa_cons (pv 6) pa_nil))))) pss_nil))))))
      (pss_one (ps_ret (pv 2))))))), ?_⟩
  obtain ⟨as, eW, la, hA⟩ := id hW
  have nFS : ∀ {F : Addr}, H F = none → S ≠ F := fun h e => by rw [← e, eS] at h; cases h
  have nFW : ∀ {F : Addr}, H F = none → W ≠ F := fun h e => by rw [← e, eW] at h; cases h
  -- found
  refine ⟨_, rfl, W, rfl, ⟨_, .of eW⟩, fun F hF => lc_list (xs := as.map V.ref) (fun j H' => Same H H' ∧ H' F = some (.lst ((List.replicate j false).map V.bl))) ⟨same_new hF _, upd_same⟩ (fun j H' _ p' => .of (p'.1 _ _ eW)) (fun j x H' ex p' => ?_) (fun H1 p1 => ?_)⟩
  · have lj := (List.getElem?_eq_some_iff.mp ex).1
    rw [List.length_map, la] at lj
    refine ⟨rfl, iteT (B := False) ⟨_, p'.2, ?_, Same.upd_new p'.1 hF _, ?_⟩⟩
    · rw [List.length_map, List.length_replicate, sizeLine_eq]; omega
    · rw [upd_same, List.replicate_succ', List.map_append]; rfl
  obtain ⟨s1, e1⟩ := p1
  rw [List.length_map, la] at e1
  -- the starts
  refine ⟨_, rfl, S, rfl, ⟨_, .of (s1 _ _ eS)⟩, for_list (xs := starts.map nV) (fun j σ' H' => Same H H' ∧ ∃ (fl : List Bool) (y3 : Option V), H' F = some (.lst (fl.map V.bl)) ∧ SK ways.length (starts.take j) fl ∧ σ' = [some (.ref S), some (.ref W), some (.ref F), y3, none, none, none])
    ⟨s1, _, none, e1, by rw [List.take_zero]; exact .zero _, rfl⟩ (fun j σ' H' _ p' => .of (p'.1 _ _ eS)) (fun j x σ' H' ex p' => ?_) (fun σ' H2 p' => ?_)⟩
  · obtain ⟨t, et, rfl⟩ := map_get ex
    obtain ⟨s', fl, y3, eF, sk, rfl⟩ := p'
    have lt := hs t (List.mem_of_getElem? et)
    refine ⟨_, rfl, _, rfl, F, _, (t : Int), t, rfl, rfl, eF, ixT (by rw [List.length_map, sk.len]; exact lt), Same.upd_new s' hF _, fl.set t true, _, ?_, ?_, rfl⟩
    · rw [upd_same, List.map_set]
    · rw [List.take_add_one, et]; exact sk.add lt
  obtain ⟨s2, fl0, y3, eF0, sk, rfl⟩ := p'
  rw [List.length_map, List.take_length] at sk
  -- waiting
  refine ⟨_, rfl, S, starts.map nV, rfl, .inl (.of (s2 _ _ eS)), fun Wt nWt => ?_⟩
  have z2 := same_new nWt (.lst (starts.map nV))
  have hWt : H Wt = none := Same.free s2 nWt
  have nWF : Wt ≠ F := fun e => by rw [e, eF0] at nWt; cases nWt
  refine ⟨fun m σ' H' => Same H H' ∧ ∃ (fl : List Bool) (wt : List Nat) (y3 y5 y6 : Option V), σ' = [some (.ref S), some (.ref W), some (.ref F), y3, some (.ref Wt), y5, y6] ∧ H' F = some (.lst (fl.map V.bl)) ∧ H' Wt = some (.lst (wt.map nV)) ∧ SI ways starts fl wt ∧ 2 * cnt fl + wt.length = m ∧ m ≤ 3000,
    ⟨_, s2.trans z2, fl0, starts, _, none, none, rfl, z2 _ _ eF0, upd_same, sk.si, rfl, by have := cnt_le fl0; have := sk.len; omega⟩, ?_⟩
  rintro m σ' H3 ⟨s3, fl, wt, y3', y5, y6, rfl, eF, eWt, si, em, hm⟩
  refine ⟨_, rfl, _, .inl ⟨_, .of eWt, rfl⟩, iteB (fun e => ?_) (fun e => ?_)⟩
  · rcases List.eq_nil_or_concat wt with rfl | ⟨ys, a, rfl⟩
    · cases e
    rw [List.concat_eq_append] at eWt si em
    refine ⟨fun σ' H' => ∃ m', m' < m ∧ (Same H H' ∧ ∃ (fl : List Bool) (wt : List Nat) (y3 y5 y6 : Option V), σ' = [some (.ref S), some (.ref W), some (.ref F), y3, some (.ref Wt), y5, y6] ∧ H' F = some (.lst (fl.map V.bl)) ∧ H' Wt = some (.lst (wt.map nV)) ∧ SI ways starts fl wt ∧ 2 * cnt fl + wt.length = m' ∧ m' ≤ 3000), fun σ' H' h => h, ?_⟩
    have sj := si.pop
    have la' : a < ways.length := by rw [← si.len]; exact (List.getElem?_eq_some_iff.mp sj.rat).1
    rw [List.length_append] at em
    -- pop
    refine ⟨_, rfl, .inl ⟨rfl, _, .inl (.inl eWt)⟩, Wt, _, nV a, rfl, rfl, eWt, ?_, ?_⟩
    · rw [List.map_append, List.length_append, List.length_map]; simp
    have eD : ((ys ++ [a]).map nV).dropLast = ys.map nV := by rw [List.map_append]; simp
    rw [eD]
    have s4 : Same H (upd H3 Wt (.lst (ys.map nV))) := Same.upd_new s3 hWt _
    have eF4 : (upd H3 Wt (.lst (ys.map nV))) F = some (.lst (fl.map V.bl)) := by rw [upd_ne (Ne.symm nWF)]; exact eF
    have ea : as[a]? = some (as[a]'(by rw [la]; exact la')) := List.getElem?_eq_getElem _
    have ew : ways[a]? = some (ways[a]'la') := List.getElem?_eq_getElem _
    generalize as[a]'(by rw [la]; exact la') = aw at ea
    generalize ways[a]'la' = ws at ew
    have eaw := hA a aw ws ea ew
    have ewd : (ways[a]?).getD [] = ws := by rw [ew]; rfl
    -- for state in ways[at]
    refine ⟨_, rfl, _, rfl, W, _, (a : Int), .ref aw, rfl, rfl, .of (s4 _ _ eW), atI_nat (get_map ea), aw, rfl, ⟨_, .of (s4 _ _ eaw)⟩, for_list (xs := ws.map nV) (fun j σ' H' => Same H H' ∧ ∃ (fl : List Bool) (wt : List Nat) (y3 y6 : Option V), σ' = [some (.ref S), some (.ref W), some (.ref F), y3, some (.ref Wt), some (nV a), y6] ∧ H' F = some (.lst (fl.map V.bl)) ∧ H' Wt = some (.lst (wt.map nV)) ∧ SJ ways starts a j fl wt ∧ 2 * cnt fl + wt.length < m)
      ⟨s4, fl, ys, _, _, rfl, eF4, upd_same, sj, by simp at em; omega⟩ (fun j σ' H' _ p' => .of (p'.1 _ _ eaw)) (fun j x σ' H' ex p' => ?_) (fun σ' H' p' => ?_)⟩
    · obtain ⟨t, et, rfl⟩ := map_get ex
      obtain ⟨s5, fl5, wt5, y3, y6, rfl, eF5, eWt5, sj5, lm⟩ := p'
      have lt := wf a ws ew t (List.mem_of_getElem? et)
      have lt5 : t < fl5.length := by rw [sj5.len]; exact lt
      have et' : ((ways[a]?).getD [])[j]? = some t := by rw [ewd]; exact et
      obtain ⟨b, eb⟩ : ∃ b, fl5[t]? = some b := ⟨_, List.getElem?_eq_getElem lt5⟩
      refine ⟨_, rfl, _, rfl, F, _, (t : Int), .bl b, rfl, rfl, .of eF5, atI_nat (get_map eb), b, rfl, iteB (fun e => ?_) (fun e => ?_)⟩
      · have e' := not_true e
        subst e'
        refine ⟨_, rfl, _, rfl, F, _, (t : Int), t, rfl, rfl, eF5, ixT (by rw [List.length_map]; exact lt5), ?_⟩
        have eW6 : (upd H' F (.lst ((fl5.map V.bl).set t (.bl true)))) Wt = some (.lst (wt5.map nV)) := by rw [upd_ne nWF]; exact eWt5
        have hc := cnt_set eb
        refine ⟨_, rfl, .inl ⟨rfl, _, .inl (.inl eW6)⟩, _, rfl, Wt, _, nV t, rfl, rfl, eW6, by rw [List.length_map, sizeLine_eq]; omega, ?_⟩
        refine ⟨Same.upd_new (Same.upd_new s5 hF _) hWt _, fl5.set t true, wt5 ++ [t], _, _, rfl, ?_, ?_, sj5.set et' eb, by rw [List.length_append, List.length_singleton]; omega⟩
        · rw [upd_ne (Ne.symm nWF), upd_same, List.map_set]
        · rw [upd_same, List.map_append]; rfl
      · have e' := not_false' e
        subst e'
        exact ⟨s5, fl5, wt5, _, _, rfl, eF5, eWt5, sj5.skip et' eb, lm⟩
    · obtain ⟨s5, fl5, wt5, y3, y6, rfl, eF5, eWt5, sj5, lm⟩ := p'
      rw [List.length_map, ← ewd] at sj5
      exact ⟨_, lm, s5, fl5, wt5, _, _, _, rfl, eF5, eWt5, sj5.done, rfl, by omega⟩
  · have ew : wt = [] := by
      cases wt with
      | nil => rfl
      | cons a b => cases e
    subst ew
    exact ⟨_, rfl, q F fl H3 s3 hF eF si.len fun i => si.fin i⟩
end
end KL
end
section
set_option maxHeartbeats 1000000
namespace KL
open PySem PySem.Spec PyProof.Rows L2
/-! ### the graph of a machine's steps -/
def tgt : Th → Option Nat
  | .tup [_, .int s] => some s.toNat
  | _ => none
def nxr (r : Th) : List Nat := (stepsOf r).filterMap tgt
def nxs (rows : List Th) : List (List Nat) := rows.map nxr
abbrev Rc (rows : List Th) (a b : Nat) : Prop := RS (nxs rows) [a] b
theorem nxs_len (rows : List Th) : (nxs rows).length = rows.length := List.length_map _
theorem nxs_get {rows : List Th} {i : Nat} {r : Th} (h : rows[i]? = some r) : (nxs rows)[i]? = some (nxr r) := by
  unfold nxs; rw [List.getElem?_map, h]; rfl
theorem nxs_getD (rows : List Th) (i : Nat) : ((nxs rows)[i]?).getD [] = nxr ((rows[i]?).getD .non) := by
  unfold nxs
  rw [List.getElem?_map]
  cases rows[i]? <;> rfl
theorem RS.trans1 {ways : List (List Nat)} {ss : List Nat} {b c : Nat} (h : RS ways ss b) (k : RS ways [b] c) : RS ways ss c := by
  induction k with
  | base m => rw [List.mem_singleton.mp m]; exact h
  | step _ m ih => exact .step ih m
theorem RS.more {ways : List (List Nat)} {ss tt : List Nat} {c : Nat} (hs : ∀ s ∈ ss, s ∈ tt) (k : RS ways ss c) : RS ways tt c := by
  induction k with
  | base m => exact .base (hs _ m)
  | step _ m ih => exact .step ih m
theorem RS.from1 {ways : List (List Nat)} {ss : List Nat} {c : Nat} (k : RS ways ss c) : ∃ s ∈ ss, RS ways [s] c := by
  induction k with
  | base m => exact ⟨_, m, .base (List.mem_singleton.mpr rfl)⟩
  | step _ m ih =>
    obtain ⟨s, ms, h⟩ := ih
    exact ⟨s, ms, .step h m⟩
theorem Rc.rfl' (rows : List Th) (a : Nat) : Rc rows a a := .base (List.mem_singleton.mpr rfl)
theorem Rc.head {rows : List Th} {a t b : Nat} (h : t ∈ ((nxs rows)[a]?).getD []) (k : Rc rows t b) : Rc rows a b := RS.trans1 (.step (Rc.rfl' rows a) h) k
theorem RS.back {ways bs : List (List Nat)} (hb : ∀ i t : Nat, t ∈ (bs[i]?).getD [] ↔ i ∈ (ways[t]?).getD []) {a b : Nat} (h : RS ways [a] b) : RS bs [b] a := by
  induction h with
  | base m => rw [List.mem_singleton.mp m]; exact .base (List.mem_singleton.mpr rfl)
  | step _ m ih => exact RS.trans1 (.step (.base (List.mem_singleton.mpr rfl)) ((hb _ _).mpr m)) ih
theorem RS.ends {ways bs : List (List Nat)} (hb : ∀ i t : Nat, t ∈ (bs[i]?).getD [] ↔ i ∈ (ways[t]?).getD []) (es : List Nat) (i : Nat) : RS bs es i ↔ ∃ e ∈ es, RS ways [i] e := by
  constructor
  · intro h
    obtain ⟨e, me, h⟩ := RS.from1 h
    exact ⟨e, me, RS.back (ways := bs) (bs := ways) (fun i t => (hb t i).symm) h⟩
  · rintro ⟨e, me, h⟩
    exact RS.more (fun s m => by rw [List.mem_singleton.mp m]; exact me) (RS.back hb h)
theorem tgt_lt {n : Int} {st : Th} {t : Nat} (h : StepIs n st) (e : tgt st = some t) : (t : Int) < n := by
  rcases h with rfl | ⟨m, s, rfl, m0, m1, s0, s1⟩
  · cases e
  · have e' : s.toNat = t := Option.some.inj e
    omega
theorem MOk.nx_lt {z : Int} {rows : List Th} (ok : MOk z rows) : ∀ (i : Nat) (ws : List Nat), (nxs rows)[i]? = some ws → ∀ t ∈ ws, t < (nxs rows).length := by
  intro i ws h t m
  rw [nxs_len]
  have hi : i < rows.length := by
    have := (List.getElem?_eq_some_iff.mp h).1
    rwa [nxs_len] at this
  obtain ⟨e, ss, er, h1, h2, h3⟩ := ok.row hi
  rw [nxs_get er] at h
  cases h
  obtain ⟨st, ms, et⟩ := List.mem_filterMap.mp m
  have := tgt_lt (h3 st ms) et
  omega
theorem MOk.rc_lt {z : Int} {rows : List Th} (ok : MOk z rows) {a b : Nat} (ha : a < rows.length) (h : Rc rows a b) : b < rows.length := by
  have := RS.lt ok.nx_lt (fun s m => by rw [List.mem_singleton.mp m, nxs_len]; exact ha) h
  rwa [nxs_len] at this
def isEnd (rows : List Th) (s : Nat) : Prop := endOf ((rows[s]?).getD .non) ≠ .non
def lvE (rows : List Th) (s : Nat) : Prop := ∃ e, Rc rows s e ∧ isEnd rows e
def lv (rows : List Th) (s : Nat) : Prop := Rc rows 0 s ∧ lvE rows s
noncomputable def keepB (rows : List Th) (s : Nat) : Bool := @decide (lv rows s) (Classical.propDecidable _)
theorem keepB_iff {rows : List Th} {s : Nat} : keepB rows s = true ↔ lv rows s := by
  unfold keepB; exact @decide_eq_true_iff (lv rows s) (Classical.propDecidable _)
noncomputable def lvEB (rows : List Th) (s : Nat) : Bool := @decide (lvE rows s) (Classical.propDecidable _)
theorem lvEB_iff {rows : List Th} {s : Nat} : lvEB rows s = true ↔ lvE rows s := by
  unfold lvEB; exact @decide_eq_true_iff (lvE rows s) (Classical.propDecidable _)
noncomputable def keep (rows : List Th) : List Nat := (List.range rows.length).filter (keepB rows)
theorem mem_keep {rows : List Th} {s : Nat} : s ∈ keep rows ↔ s < rows.length ∧ lv rows s := by
  unfold keep
  rw [List.mem_filter, List.mem_range, keepB_iff]
theorem keep_nodup (rows : List Th) : (keep rows).Nodup := List.Pairwise.filter _ List.nodup_range
theorem keep_len (rows : List Th) : (keep rows).length ≤ rows.length := by
  have := List.length_filter_le (keepB rows) (List.range rows.length)
  rwa [List.length_range] at this
theorem isEnd_lvE {rows : List Th} {s : Nat} (h : isEnd rows s) : lvE rows s := ⟨s, Rc.rfl' rows s, h⟩
theorem lvE_head {rows : List Th} {a t : Nat} (h : t ∈ ((nxs rows)[a]?).getD []) (k : lvE rows t) : lvE rows a := by
  obtain ⟨e, r, he⟩ := k
  exact ⟨e, Rc.head h r, he⟩
theorem lvE_of {rows : List Th} {a t : Nat} (h : Rc rows a t) (k : lvE rows t) : lvE rows a := by
  obtain ⟨e, r, he⟩ := k
  exact ⟨e, RS.trans1 h r, he⟩
theorem keep_zero {rows : List Th} (n1 : 1 ≤ rows.length) (h : lvE rows 0) : 0 ∈ keep rows := mem_keep.mpr ⟨n1, Rc.rfl' rows 0, h⟩
theorem keep_ne {rows : List Th} (n1 : 1 ≤ rows.length) (h : keep rows ≠ []) : lvE rows 0 := by
  obtain ⟨s, hs⟩ := List.exists_mem_of_ne_nil _ h
  obtain ⟨_, r, e⟩ := mem_keep.mp hs
  exact lvE_of r e
theorem keep_first {rows : List Th} (n1 : 1 ≤ rows.length) (h : lvE rows 0) : (keep rows)[0]? = some 0 := by
  obtain ⟨n, hn⟩ : ∃ n, rows.length = n + 1 := ⟨rows.length - 1, by omega⟩
  unfold keep
  rw [hn, List.range_succ_eq_map, List.filter_cons, if_pos (keepB_iff.mpr ⟨Rc.rfl' rows 0, h⟩)]
  rfl
/-! ### the machine with its live states alone -/
def renS (ks : List Nat) : Th → Th
  | .tup [m, .int s] => if s.toNat ∈ ks then .tup [m, .int (ks.idxOf s.toNat : Nat)] else .non
  | _ => .non
def renT (ks : List Nat) (r : Th) : Th := .tup [endOf r, .tup ((stepsOf r).map (renS ks))]
def bareRow (z : Int) : Th := .tup [.non, .tup (List.replicate z.toNat .non)]
noncomputable def trimL (z : Int) (rows : List Th) : List Th := if keep rows = [] then [bareRow z] else (keep rows).map fun s => renT (keep rows) ((rows[s]?).getD .non)
noncomputable def trimT (z : Int) (rows : List Th) : Th := .tup [.int z, .tup (trimL z rows)]
theorem renS_is {n k : Nat} {ks : List Nat} {st : Th} (hk : ks.length = k) (h : StepIs (n : Int) st) : StepIs (k : Int) (renS ks st) := by
  rcases h with rfl | ⟨m, s, rfl, m0, m1, s0, s1⟩
  · exact .inl rfl
  · show StepIs (k : Int) (if s.toNat ∈ ks then .tup [.int m, .int (ks.idxOf s.toNat : Nat)] else .non)
    by_cases hm : s.toNat ∈ ks
    · rw [if_pos hm]
      refine .inr ⟨m, _, rfl, m0, m1, by omega, ?_⟩
      have := List.idxOf_lt_length_of_mem hm
      omega
    · rw [if_neg hm]; exact .inl rfl
theorem bare_ok {z : Int} (z1 : 1 ≤ z) (z8 : z ≤ 8) : MOk z [bareRow z] where
  z1 := z1
  z8 := z8
  n1 := Nat.le_refl _
  n30 := (by decide : 1 ≤ 30)
  r := fun r m => by
    rw [List.mem_singleton.mp m]
    exact rowB_of (.inl rfl) (by rw [List.length_replicate]; omega) fun st ms => .inl (List.eq_of_mem_replicate ms)
theorem trimL_ok {z : Int} {rows : List Th} (ok : MOk z rows) : MOk z (trimL z rows) := by
  unfold trimL
  by_cases h : keep rows = []
  · rw [if_pos h]; exact bare_ok ok.z1 ok.z8
  · rw [if_neg h]
    refine ⟨ok.z1, ok.z8, ?_, ?_, fun r m => ?_⟩
    · rw [List.length_map]
      exact List.length_pos_iff.mpr h
    · rw [List.length_map]
      have := keep_len rows
      have := ok.n30
      omega
    · obtain ⟨s, ms, rfl⟩ := List.mem_map.mp m
      obtain ⟨e, ss, er, h1, h2, h3⟩ := ok.row (mem_keep.mp ms).1
      rw [er]
      rw [List.length_map]
      exact rowB_of h1 (by show ((ss.map _).length : Int) = z; rw [List.length_map]; exact h2) fun st mst => by
        obtain ⟨x, mx, rfl⟩ := List.mem_map.mp mst
        exact renS_is rfl (h3 x mx)
theorem trimL_get {z : Int} {rows : List Th} (h : keep rows ≠ []) {j s : Nat} (e : (keep rows)[j]? = some s) : (trimL z rows)[j]? = some (renT (keep rows) ((rows[s]?).getD .non)) := by
  unfold trimL
  rw [if_neg h, List.getElem?_map, e]
  rfl
theorem ne_of_get {rows : List Th} {j s : Nat} (e : (keep rows)[j]? = some s) : keep rows ≠ [] := fun h => by rw [h] at e; cases e
theorem step_trim {z : Int} {rows : List Th} {j s : Nat} (e : (keep rows)[j]? = some s) (l : Nat) : stepAt (trimL z rows) j l = renS (keep rows) (stepAt rows s l) := by
  unfold stepAt
  rw [trimL_get (ne_of_get e) e]
  show (((stepsOf ((rows[s]?).getD .non)).map (renS (keep rows)))[l]?).getD .non = _
  rw [List.getElem?_map]
  cases (stepsOf ((rows[s]?).getD .non))[l]? <;> rfl
theorem end_trim {z : Int} {rows : List Th} {j s : Nat} (e : (keep rows)[j]? = some s) : endOf (((trimL z rows)[j]?).getD .non) = endOf ((rows[s]?).getD .non) := by
  rw [trimL_get (ne_of_get e) e]
  rfl
theorem step_nx {rows : List Th} {s l : Nat} {m s' : Int} (h : stepAt rows s l = .tup [.int m, .int s']) : s'.toNat ∈ ((nxs rows)[s]?).getD [] := by
  rw [nxs_getD]
  unfold stepAt at h
  cases e : (stepsOf ((rows[s]?).getD .non))[l]? with
  | none => rw [e] at h; cases h
  | some x =>
    rw [e] at h
    have h' : x = .tup [.int m, .int s'] := h
    subst h'
    exact List.mem_filterMap.mpr ⟨_, List.mem_of_getElem? e, rfl⟩
theorem nx_step {z : Int} {rows : List Th} (ok : MOk z rows) {s t : Nat} (h : t ∈ ((nxs rows)[s]?).getD []) : ∃ (l : Nat) (m : Int), (l : Int) < z ∧ stepAt rows s l = .tup [.int m, .int (t : Int)] := by
  rw [nxs_getD] at h
  obtain ⟨st, ms, et⟩ := List.mem_filterMap.mp h
  obtain ⟨l, el⟩ := List.mem_iff_getElem?.mp ms
  cases hs : rows[s]? with
  | none => rw [hs] at ms; cases ms
  | some r =>
    have hlt := (List.getElem?_eq_some_iff.mp hs).1
    obtain ⟨e, ss, er, h1, h2, h3⟩ := ok.row hlt
    rw [er] at el ms
    have ms' : st ∈ ss := ms
    have el' : ss[l]? = some st := el
    rcases h3 st ms' with rfl | ⟨m, s', rfl, m0, m1, s0, s1⟩
    · cases et
    · have e1 : s'.toNat = t := Option.some.inj et
      have l1 := (List.getElem?_eq_some_iff.mp el').1
      refine ⟨l, m, by omega, ?_⟩
      unfold stepAt
      rw [er]
      show ((ss)[l]?).getD .non = _
      rw [el', show (t : Int) = s' by omega]
      rfl
theorem stepAt_is {z : Int} {rows : List Th} (ok : MOk z rows) (s l : Nat) : StepIs (rows.length : Int) (stepAt rows s l) := by
  unfold stepAt
  cases hs : rows[s]? with
  | none => exact .inl rfl
  | some r =>
    have hlt := (List.getElem?_eq_some_iff.mp hs).1
    obtain ⟨e, ss, er, h1, h2, h3⟩ := ok.row hlt
    rw [hs] at er
    cases er
    show StepIs _ (((ss)[l]?).getD .non)
    cases hl : ss[l]? with
    | none => exact .inl rfl
    | some st => exact h3 st (List.mem_of_getElem? hl)
/-- from a state from which no text ends -/
theorem read_dead {z : Int} {rows : List Th} (ok : MOk z rows) : ∀ (ls : List Th) (s : Nat) (m : Int), ¬ lvE rows s → lastT rows (rdT rows s m ls) = none
  | [], s, m, h => by
    rw [rdT, lastT]
    have he : endOf ((rows[s]?).getD .non) = .non := Classical.byContradiction fun e => h (isEnd_lvE e)
    rw [he]
  | l :: ls, s, m, h => by
    rw [rdT]
    rcases stepAt_is ok s (num l).toNat with e | ⟨d, s', e, _, _, _, _⟩
    · rw [e]; rfl
    · rw [e]
      exact read_dead ok ls _ _ fun k => h (lvE_head (step_nx e) k)
theorem read_trim {z : Int} {rows : List Th} (ok : MOk z rows) : ∀ (ls : List Th) (s j : Nat) (m : Int), (keep rows)[j]? = some s → lastT rows (rdT rows s m ls) = lastT (trimL z rows) (rdT (trimL z rows) j m ls)
  | [], s, j, m, h => by rw [rdT, rdT, lastT, lastT, end_trim h]
  | l :: ls, s, j, m, h => by
    rw [rdT, rdT, step_trim h]
    rcases stepAt_is ok s (num l).toNat with e | ⟨d, s', e, _, _, _, s1⟩
    · rw [e]; rfl
    · rw [e, renS]
      by_cases hm : s'.toNat ∈ keep rows
      · rw [if_pos hm]
        have hj : (keep rows)[(keep rows).idxOf s'.toNat]? = some s'.toNat := by
          have hl := List.idxOf_lt_length_of_mem hm
          rw [List.getElem?_eq_getElem hl, List.getElem_idxOf]
        have ih := read_trim ok ls s'.toNat _ (m + d) hj
        rw [ih]
        rfl
      · rw [if_neg hm]
        show lastT rows (rdT rows s'.toNat (m + d) ls) = none
        refine read_dead ok ls _ _ fun k => hm (mem_keep.mpr ⟨by omega, ?_, k⟩)
        have := (mem_keep.mp (List.mem_of_getElem? h)).2.1
        exact .step this (step_nx e)
theorem bare_step (z : Int) (l : Nat) : stepAt [bareRow z] 0 l = .non := by
  show ((List.replicate z.toNat Th.non)[l]?).getD .non = .non
  rw [List.getElem?_replicate]
  split <;> rfl
theorem len_trim {z : Int} {rows : List Th} (ok : MOk z rows) (ls : List Th) : lenT rows ls = lenT (trimL z rows) ls := by
  unfold lenT
  by_cases h : keep rows = []
  · have hd : ¬ lvE rows 0 := fun k => by
      have := keep_zero ok.n1 k
      rw [h] at this
      cases this
    rw [read_dead ok ls 0 0 hd]
    unfold trimL
    rw [if_pos h]
    cases ls with
    | nil => rfl
    | cons l ls => rw [rdT, bare_step]; rfl
  · exact read_trim ok ls 0 0 0 (keep_first ok.n1 (keep_ne ok.n1 h))
/-! trimmed twice -/
theorem keep_idx {rows : List Th} {j s : Nat} (e : (keep rows)[j]? = some s) : (keep rows).idxOf s = j := by
  have hj := (List.getElem?_eq_some_iff.mp e)
  obtain ⟨hl, e2⟩ := hj
  rw [← e2]
  exact (keep_nodup rows).idxOf_getElem j hl
theorem rc_trim {z : Int} {rows : List Th} (ok : MOk z rows) {a b : Nat} (ha : a ∈ keep rows) (h : Rc rows a b) (hb : lvE rows b) : b ∈ keep rows ∧ Rc (trimL z rows) ((keep rows).idxOf a) ((keep rows).idxOf b) := by
  induction h with
  | base m => rw [List.mem_singleton.mp m]; exact ⟨ha, Rc.rfl' _ _⟩
  | step h0 m ih =>
    rename_i i t
    obtain ⟨mi, ri⟩ := ih (lvE_head m hb)
    have ki := mem_keep.mp mi
    have mt : t ∈ keep rows := mem_keep.mpr ⟨by
      have := ok.rc_lt ki.1 (.step (Rc.rfl' rows i) m)
      exact this, .step ki.2.1 m, hb⟩
    refine ⟨mt, .step ri ?_⟩
    obtain ⟨l, d, _, el⟩ := nx_step ok m
    have ei : (keep rows)[(keep rows).idxOf i]? = some i := by
      have hl := List.idxOf_lt_length_of_mem mi
      rw [List.getElem?_eq_getElem hl, List.getElem_idxOf]
    have e2 := step_trim (z := z) ei l
    rw [el, renS, Int.toNat_natCast, if_pos mt] at e2
    have := step_nx e2
    rwa [Int.toNat_natCast] at this
theorem keep_trim {z : Int} {rows : List Th} (ok : MOk z rows) (h : keep rows ≠ []) : keep (trimL z rows) = List.range (keep rows).length := by
  have hl : (trimL z rows).length = (keep rows).length := by unfold trimL; rw [if_neg h, List.length_map]
  have h0 := keep_first ok.n1 (keep_ne ok.n1 h)
  have m0 := List.mem_of_getElem? h0
  unfold keep
  rw [hl]
  refine List.filter_eq_self.mpr fun j mj => ?_
  rw [List.mem_range] at mj
  have ej := List.getElem?_eq_getElem (l := keep rows) mj
  have ms := List.mem_of_getElem? ej
  obtain ⟨_, r, e, re, he⟩ := mem_keep.mp ms
  have r1 := (rc_trim (z := z) ok m0 r ⟨e, re, he⟩).2
  obtain ⟨me, r2⟩ := rc_trim (z := z) ok ms re (isEnd_lvE he)
  rw [keep_idx h0, keep_idx ej] at r1
  rw [keep_idx ej] at r2
  have ee : (keep rows)[(keep rows).idxOf e]? = some e := by
    have hl := List.idxOf_lt_length_of_mem me
    rw [List.getElem?_eq_getElem hl, List.getElem_idxOf]
  refine keepB_iff.mpr ⟨r1, _, r2, ?_⟩
  unfold isEnd
  rw [end_trim ee]
  exact he
theorem ren_id {k : Nat} {st : Th} (h : StepIs (k : Int) st) : renS (List.range k) st = st := by
  rcases h with rfl | ⟨m, s, rfl, m0, m1, s0, s1⟩
  · rfl
  · have hm : s.toNat ∈ List.range k := List.mem_range.mpr (by omega)
    rw [renS, if_pos hm]
    have e : (List.range k).idxOf s.toNat = s.toNat := by
      have hl : s.toNat < (List.range k).length := by rw [List.length_range]; omega
      have := (List.nodup_range (n := k)).idxOf_getElem s.toNat hl
      rwa [List.getElem_range] at this
    rw [e, show ((s.toNat : Nat) : Int) = s by omega]
theorem trim_trim {z : Int} {rows : List Th} (ok : MOk z rows) : trimL z (trimL z rows) = trimL z rows := by
  by_cases h : keep rows = []
  · have e : trimL z rows = [bareRow z] := by unfold trimL; rw [if_pos h]
    rw [e]
    have hk : keep [bareRow z] = [] := by
      refine List.eq_nil_iff_forall_not_mem.mpr fun s ms => ?_
      obtain ⟨hs, r, x, rx, hx⟩ := mem_keep.mp ms
      have okb := bare_ok ok.z1 ok.z8
      have lx := okb.rc_lt hs rx
      have x0 : x = 0 := by have : x < 1 := lx; omega
      subst x0
      exact hx rfl
    unfold trimL
    rw [if_pos hk]
  · have ok2 := trimL_ok ok
    have hk := keep_trim ok h
    have hl : (trimL z rows).length = (keep rows).length := by unfold trimL; rw [if_neg h, List.length_map]
    have hne : keep (trimL z rows) ≠ [] := by
      rw [hk]
      intro e
      have : (List.range (keep rows).length).length = 0 := by rw [e]; rfl
      rw [List.length_range] at this
      exact h (List.length_eq_zero_iff.mp this)
    rw [show trimL z (trimL z rows) = (keep (trimL z rows)).map fun s => renT (keep (trimL z rows)) (((trimL z rows)[s]?).getD .non) by rw [trimL, if_neg hne], hk]
    refine List.ext_getElem? fun j => ?_
    rw [List.getElem?_map]
    by_cases hj : j < (keep rows).length
    · rw [List.getElem?_range hj]
      show some (renT (List.range (keep rows).length) (((trimL z rows)[j]?).getD .non)) = _
      have hj2 : j < (trimL z rows).length := by rw [hl]; exact hj
      obtain ⟨e, ss, er, h1, h2, h3⟩ := ok2.row hj2
      rw [er]
      show some (Th.tup [e, .tup (ss.map (renS (List.range (keep rows).length)))]) = _
      have : ss.map (renS (List.range (keep rows).length)) = ss := by
        conv => rhs; rw [← List.map_id ss]
        refine List.map_congr_left fun st ms => ?_
        have := h3 st ms
        rw [hl] at this
        exact ren_id this
      rw [this]
    · rw [List.getElem?_eq_none (by rw [List.length_range]; omega), List.getElem?_eq_none (by rw [hl]; omega)]
      rfl
/-! a text through each state -/
theorem rdT_mv (rows : List Th) : ∀ (ls : List Th) (s : Nat) (m m' : Int), (rdT rows s m ls).2 = (rdT rows s m' ls).2
  | [], _, _, _ => rfl
  | l :: ls, s, m, m' => by
    rw [rdT, rdT]
    split
    · exact rdT_mv rows ls _ _ _
    · rfl
def Led (rows : List Th) (a : Nat) (ls : List Th) (b : Nat) : Prop := (rdT rows a 0 ls).2 = some b
theorem Led.nil (rows : List Th) (a : Nat) : Led rows a [] a := rfl
theorem rdT_app (rows : List Th) : ∀ (ls ks : List Th) (s b : Nat) (m : Int), (rdT rows s m ls).2 = some b → ∃ m', rdT rows s m (ls ++ ks) = rdT rows b m' ks
  | [], ks, s, b, m, h => by
    have e : s = b := Option.some.inj h
    subst e
    exact ⟨m, rfl⟩
  | l :: ls, ks, s, b, m, h => by
    rw [List.cons_append, rdT]
    rw [rdT] at h
    split at h
    · next d s' e =>
      exact rdT_app rows ls ks _ b _ h
    · cases h
theorem Led.app {rows : List Th} {a b c : Nat} {ls ks : List Th} (h : Led rows a ls b) (k : Led rows b ks c) : Led rows a (ls ++ ks) c := by
  obtain ⟨m', e⟩ := rdT_app rows ls ks a b 0 h
  unfold Led
  rw [e, rdT_mv rows ks b m' 0]
  exact k
theorem Led.snoc {rows : List Th} {a b l : Nat} {m t : Int} {ls : List Th} (h : Led rows a ls b) (e : stepAt rows b l = .tup [.int m, .int t]) : Led rows a (ls ++ [.int (l : Nat)]) t.toNat := by
  refine Led.app h ?_
  unfold Led
  rw [rdT, show (num (.int (l : Nat))).toNat = l from Int.toNat_natCast l, e]
  rfl
theorem Led.len {z : Int} {rows : List Th} (ok : MOk z rows) {e : Nat} {ls : List Th} (h : Led rows 0 ls e) (he : isEnd rows e) : ∃ i, lenT rows ls = some i := by
  unfold Led at h
  unfold lenT
  generalize rdT rows 0 0 ls = R at h
  obtain ⟨m, so⟩ := R
  have h' : so = some e := h
  subst h'
  have hlt : e < rows.length := by
    by_cases hh : e < rows.length
    · exact hh
    · exact absurd (by rw [List.getElem?_eq_none (by omega)]; rfl) he
  obtain ⟨x, ss, er, h1, h2, h3⟩ := ok.row hlt
  unfold isEnd at he
  rw [er] at he
  rcases h1 with rfl | ⟨i, rfl, _⟩
  · exact absurd rfl he
  · refine ⟨m + i, ?_⟩
    rw [lastT, er]
    rfl
end KL
end
section
set_option maxHeartbeats 4000000
namespace KL
open PySem PySem.Spec PyProof.Rows L2
/-! ### t * n of any tuple, any small n -/
theorem mul_same (l : Addr) (items : Array Value) (n : Nat) (dd : Option Addr) (sl : Array (Option Value)) (x : Int) (u : Tok) (c0 : (decide (x < -(2 ^ 63)) || decide (x ≥ 2 ^ 63)) = false) (c1 : (items.isEmpty || x == 1) = true) :
    Meets (Builtin.«tuple.__mul__» ⟨[.ref l, .int x u], []⟩) (fun _ R s => s.heap.get? l = some { cls := .type "tuple", dict := dd, data := .seq items n, slots := sl } ∧ R (.ok (.ret (Value.ref l))) s) :=
  .of_wp fun prog w A R s h => by
    obtain ⟨hp, g, d, tk, os⟩ := s
    obtain ⟨hl, h⟩ := h
    have f1 := AutoSeq1.idx_int
    (wp_walk using wpAny_loadPart' hl); skip
    repeat (first
      | (refine wpAny_ite_false (decide_eq_false (by rw [c0]; exact Bool.false_ne_true)) ?_; wp_walk using wpAny_loadPart' hl)
      | (refine wpAny_ite_true (decide_eq_true c1) ?_; wp_walk using wpAny_loadPart' hl)); skip
    exact ⟨_, rfl, h⟩
theorem mul_none (l : Addr) (items : Array Value) (n : Nat) (dd : Option Addr) (sl : Array (Option Value)) (x : Int) (u : Tok) (c0 : (decide (x < -(2 ^ 63)) || decide (x ≥ 2 ^ 63)) = false) (c1 : (items.isEmpty || x == 1) = false) (c2 : (decide (x ≤ 0) || items.isEmpty) = true) :
    Meets (Builtin.«tuple.__mul__» ⟨[.ref l, .int x u], []⟩) (fun _ R s => s.heap.get? l = some { cls := .type "tuple", dict := dd, data := .seq items n, slots := sl } ∧ R (.ok (.ret (Value.ref s.heap.objs.size))) { s with heap := s.heap.push { cls := Value.type "tuple", data := Data.seq #[] }, toks := s.toks }) :=
  .of_wp fun prog w A R s h => by
    obtain ⟨hp, g, d, tk, os⟩ := s
    obtain ⟨hl, h⟩ := h
    have f1 := AutoSeq1.idx_int
    (wp_walk using wpAny_loadPart' hl); skip
    repeat (first
      | (refine wpAny_ite_false (decide_eq_false (by rw [c0]; exact Bool.false_ne_true)) ?_; wp_walk using wpAny_loadPart' hl)
      | (refine wpAny_ite_false (decide_eq_false (by rw [c1]; exact Bool.false_ne_true)) ?_; wp_walk using wpAny_loadPart' hl)
      | (refine wpAny_ite_true (decide_eq_true c2) ?_; wp_walk using wpAny_loadPart' hl)); skip
    exact ⟨_, rfl, h⟩
def repV {α : Type} (k : Int) (xs : List α) : List α := (List.replicate k.toNat xs).flatten
theorem repV_one {α : Type} (xs : List α) : repV 1 xs = xs := by
  show (xs ++ []) = xs
  rw [List.append_nil]
theorem repV_nil {α : Type} (k : Int) : repV k ([] : List α) = [] := by
  unfold repV
  induction k.toNat with
  | zero => rfl
  | succ n ih => rw [List.replicate_succ, List.flatten_cons, ih]; rfl
theorem repV_le {α : Type} {k : Int} (h : k ≤ 0) (xs : List α) : repV k xs = [] := by
  unfold repV
  rw [show k.toNat = 0 by omega]
  rfl
def rRepN (K : PySem.W.Frag) : R2 := fun x y H Q => ∃ l k xs, x = .ref l ∧ y = .int k ∧ SqT K H l xs ∧ -1000 ≤ k ∧ k ≤ 1000 ∧ xs.length ≤ 1000 ∧ (repV k xs = xs → Q (.ref l) H) ∧ ∀ p, H p = none → Q (.ref p) (upd H p (.tup (repV k xs)))
section
variable {X : Cx}
theorem op_repN : OpR X (binaryOp .Mult) (rRepN X.K) := by
  intro pins s σ H x y v u Q I rx ry h
  obtain ⟨l, k, xs, rfl, rfl, hT, h1, h2, hz, q0, q⟩ := h
  cases rx
  obtain ⟨t, rfl⟩ := ry
  obtain ⟨its, r, ⟨⟨cls, dd, data, sl⟩, ho, hc, n, hd⟩, hs⟩ := I.tuple hT
  simp only at hc hd
  subst hc hd
  have hle : its.length = xs.length := r.length.symm
  have c0 : (decide (k < -(2 ^ 63)) || decide (k ≥ 2 ^ 63)) = false := by
    rw [decide_eq_false (by omega), decide_eq_false (by omega)] <;> rfl
  have ie : its.toArray.isEmpty = xs.isEmpty := by
    cases its with
    | nil =>
      have : xs = [] := List.eq_nil_of_length_eq_zero (by rw [← hle]; rfl)
      rw [this]; rfl
    | cons a b =>
      cases xs with
      | nil => cases hle
      | cons c d => rfl
  refine wpAny_binaryOp_repeat_ref (T := "tuple") (U := "int") (by decide) ⟨_, ho, rfl⟩ (fun s' => typeIs_int s' k t) noFill_tuple_mul F.fills_int_mul F.slot_int_rmul repeat_tuple F.slot_int_index.lookup ?_
  refine call_meets F.slot_int_rmul (typeIs_int s k t) F.entry_int_rmul (F.args_int_rmul_2 _ _) (int_rmul_tuple k t l its.toArray n dd sl) ⟨ho, rfl, ⟨_, ho, rfl⟩, ?_⟩
  cases c1 : (its.toArray.isEmpty || k == 1) with
  | true =>
    refine call_meets F.slot_tuple_mul ⟨_, ho, rfl⟩ F.entry_tuple_mul (F.args_tuple_mul_2 _ _) (mul_same l its.toArray n dd sl k t c0 c1) ⟨ho, ⟨.ref l, H, I, rfl, q0 ?_⟩⟩
    rw [ie, Bool.or_eq_true] at c1
    rcases c1 with c1 | c1
    · rw [List.isEmpty_iff.mp c1, repV_nil]
    · rw [eq_of_beq c1, repV_one]
  | false =>
    have c1' := c1
    rw [Bool.or_eq_false_iff] at c1'
    by_cases k0 : k ≤ 0
    · have c2 : (decide (k ≤ 0) || its.toArray.isEmpty) = true := by rw [decide_eq_true k0]; rfl
      refine call_meets F.slot_tuple_mul ⟨_, ho, rfl⟩ F.entry_tuple_mul (F.args_tuple_mul_2 _ _) (mul_none l its.toArray n dd sl k t c0 c1 c2) ⟨ho, ?_⟩
      have q' := q _ (I.hok.fresh (Nat.le_refl _))
      rw [repV_le k0] at q'
      refine ⟨.ref s.heap.objs.size, _, I.laid (t' := s.toks) (o := .tup []) (fun b ob q => Heap.get?_push_of_some _ q) (Nat.le_refl _) ?_, rfl, q'⟩
      exact ⟨Nat.zero_le _, _, .nil, IsTup.new _ _⟩
    · have hsz0 : its.toArray.size = xs.length := by rw [List.size_toArray, hle]
      have hm : ((its.toArray.size : Nat) : Int) * k ≤ 1000000 := by
        rw [hsz0]
        have a1 : ((xs.length : Nat) : Int) * k ≤ 1000 * k := Int.mul_le_mul_of_nonneg_right (by omega) (by omega)
        omega
      have a1 : k.toNat * xs.length ≤ 1000 * 1000 := Nat.mul_le_mul (by omega) hz
      have flen : (List.replicate k.toNat its).flatten.length ≤ sizeLine := by
        rw [PyProof.Rows.lm_len_rep_flat, hle, sizeLine_eq]
        omega
      have c2 : (decide (k ≤ 0) || its.toArray.isEmpty) = false := by
        rw [c1'.1, Bool.or_false]
        exact decide_eq_false k0
      have c4 : Builtin.Tuple.tupleTooMany (((its.toArray.size : Nat) : Int) * k) = false := by
        unfold Builtin.Tuple.tupleTooMany
        rw [sizeLine_eq]
        exact decide_eq_false (by omega)
      refine call_meets F.slot_tuple_mul ⟨_, ho, rfl⟩ F.entry_tuple_mul (F.args_tuple_mul_2 _ _) (tuple_mulW l its.toArray n dd sl k t c0 c1 c2 (by omega) c4 (by rw [size_rep, List.size_toArray]; exact flen)) ⟨ho, ?_⟩
      rw [size_rep]
      refine ⟨.ref s.heap.objs.size, _, I.laid (t' := s.toks) (o := .tup (repV k xs)) (fun b ob q => Heap.get?_push_of_some _ q) (Nat.le_refl _) ?_, rfl, q _ (I.hok.fresh (Nat.le_refl _))⟩
      exact ⟨by rw [repV, PyProof.Rows.lm_len_rep_flat, sizeLine_eq]; omega, _, r.rep k.toNat, IsTup.new _ _⟩
end
end KL
end
section
set_option maxHeartbeats 1000000
namespace KL
open PySem PySem.Spec PyProof.Rows L2
/-! ### comprehensions over anything that stays -/
abbrev LcG (J : It) (g : TG) (tt : TT) (te : TE) (own : List Nat) (σ : L2.St) (H0 : Hp) (D : Addr) (Qd : Hp → Prop) : Prop :=
  ∃ W : Nat → Nat → Hp → Prop, (∃ m, W 0 m (upd H0 D (.lst []))) ∧ ∀ i m H, W i m H → ((J.stop i H ∧ Qd H) ∨ (J.go i H ∧ ∃ Nx : Hp → Prop, (∀ H', Nx H' → ∃ m', m' < m ∧ W (i + 1) m' H') ∧
    ∀ x H', J.yld i H x H' → g x (wipe σ own) H' fun σ2 H2 => wipe σ2 own = wipe σ own ∧ tt σ2 H2 fun b H3 => if b = true then (te σ2 H3 fun y H4 => ∃ acc, H4 D = some (.lst acc) ∧ acc.length < sizeLine ∧ Nx (upd H4 D (.lst (acc ++ [y])))) else Nx H3))
/-- values told of those of which p tells True -/
theorem lc_valW {J : It} {n : Nat} {G : Hp → Prop} {Y : Nat → Hp → V → Hp → Prop} {X : Nat → V → Prop} {H : Hp} {f : Nat → V} {p : Nat → Bool} {i : Nat} {own : List Nat} {tt : TT} {te : TE} {σ : L2.St} {Q : Addr → Hp → Prop}
    (w : Walk J n G Y) (hY : ∀ j H1 x H2, Y j H1 x H2 → H2 = H1 ∧ X j x) (hG : ∀ H', Same H H' → G H') (hn : n ≤ 1000000) (hw : ∀ x, wipe ((wipe σ own).set i (some x)) own = wipe σ own)
    (ht : ∀ j x H2, j < n → X j x → Same H H2 → ∀ R : Bool → Hp → Prop, (∀ H3, Same H2 H3 → R (p j) H3) → tt ((wipe σ own).set i (some x)) H2 R)
    (hs : ∀ j x H2, j < n → X j x → p j = true → Same H H2 → ∀ R : VK, (∀ H3, Same H2 H3 → R (f j) H3) → te ((wipe σ own).set i (some x)) H2 R)
    (hd : ∀ D H', Same H H' → H D = none → H' D = some (.lst (((List.range n).filter p).map f)) → Q D H') : ∀ D, H D = none → LcG J (gName i) tt te own σ H D (Q D) := by
  intro D hD
  refine lc_it w (fun j H' => Same H H' ∧ H' D = some (.lst (((List.range j).filter p).map f))) ⟨same_new hD _, upd_same⟩ (fun j H' _ q => hG H' q.1) (fun j x H1 H' hj q y => ?_) (fun H' q => hd D H' q.1 hD q.2)
  obtain ⟨rfl, ex⟩ := hY _ _ _ _ y
  refine ⟨hw x, ht j x H' hj ex q.1 _ fun H3 s3 => ?_⟩
  have lf : (((List.range j).filter p).map f).length < sizeLine := by
    rw [List.length_map, sizeLine_eq]
    have := List.length_filter_le p (List.range j)
    rw [List.length_range] at this
    omega
  cases hp : p j with
  | true =>
    refine iteT (hs j x H3 hj ex hp (q.1.trans s3) _ fun H4 s4 => ⟨_, s4 _ _ (s3 _ _ q.2), lf, Same.upd_new (q.1.trans (s3.trans s4)) hD _, ?_⟩)
    rw [upd_same, List.range_succ, List.filter_append, List.filter_cons, if_pos hp, List.map_append]
    rfl
  | false =>
    refine iteF ⟨q.1.trans s3, ?_⟩
    rw [s3 _ _ q.2, List.range_succ, List.filter_append, List.filter_cons, if_neg (by rw [hp]; exact Bool.false_ne_true), List.filter_nil, List.append_nil]
/-- new things -/
theorem lc_newW {J : It} {n : Nat} {G : Hp → Prop} {Y : Nat → Hp → V → Hp → Prop} {X : Nat → V → Prop} {H : Hp} {f : Nat → Th} {i : Nat} {own : List Nat} {te : TE} {σ : L2.St} {Q : Addr → Hp → Prop}
    (w : Walk J n G Y) (hY : ∀ j H1 x H2, Y j H1 x H2 → H2 = H1 ∧ X j x) (hG : ∀ H', Same H H' → G H') (hn : n ≤ 1000000) (hw : ∀ x, wipe ((wipe σ own).set i (some x)) own = wipe σ own)
    (hs : ∀ j x H2, j < n → X j x → Same H H2 → ∀ R : VK, (∀ v H3, Same H2 H3 → At (Trk H2) H3 (f j) v → R v H3) → te ((wipe σ own).set i (some x)) H2 R)
    (hd : ∀ D H' vs, Same H H' → H D = none → H' D = some (.lst vs) → AtAll (fun a => a = D ∨ Trk H a) H' ((List.range n).map f) vs → Q D H') : ∀ D, H D = none → LcG J (gName i) tYes te own σ H D (Q D) := by
  intro D hD
  refine lc_it w (fun j H' => Same H H' ∧ ∃ vs, H' D = some (.lst vs) ∧ AtAll (fun a => a = D ∨ Trk H a) H' ((List.range j).map f) vs) ⟨same_new hD _, [], upd_same, .nil⟩ (fun j H' _ q => hG H' q.1) (fun j x H1 H' hj q y => ?_) (fun H' q => ?_)
  · obtain ⟨rfl, ex⟩ := hY _ _ _ _ y
    obtain ⟨s1, vs, eD, aD⟩ := q
    refine ⟨hw x, iteT (B := False) (hs j x H' hj ex s1 _ fun v H3 s3 a3 => ⟨vs, s3 _ _ eD, ?_, Same.upd_new (s1.trans s3) hD _, vs ++ [v], upd_same, ?_⟩)⟩
    · rw [aD.len, List.length_map, List.length_range, sizeLine_eq]; omega
    · have sD : SB (fun a => a = D ∨ Trk H a) H3 (upd H3 D (.lst (vs ++ [v]))) := .self (Z := fun a => a = D ∨ Trk H a) (.inl rfl) _
      rw [List.range_succ, List.map_append]
      refine AtAll.append ((aD.same s3).sb sD) (.cons ((a3.less fun a h => ?_).sb sD) .nil)
      rcases h with rfl | h
      · exact .of eD
      · exact Trk.same s1 h
  · obtain ⟨s1, vs, eD, aD⟩ := q
    exact hd D H' vs s1 hD eD aD
/-- things that are not in Z -/
theorem lc_newZ {J : It} {n : Nat} {G : Hp → Prop} {Y : Nat → Hp → V → Hp → Prop} {X : Nat → V → Prop} {H : Hp} {Z : Zone} {f : Nat → Th} {i : Nat} {own : List Nat} {te : TE} {σ : L2.St} {Q : Addr → Hp → Prop}
    (w : Walk J n G Y) (hY : ∀ j H1 x H2, Y j H1 x H2 → H2 = H1 ∧ X j x) (hG : ∀ H', Same H H' → G H') (hn : n ≤ 1000000) (hw : ∀ x, wipe ((wipe σ own).set i (some x)) own = wipe σ own)
    (hs : ∀ D, H D = none → ∀ j x H2, j < n → X j x → Same H H2 → Trk H2 D → ∀ R : VK, (∀ v H3, Same H2 H3 → At (fun a => a = D ∨ Z a) H3 (f j) v → R v H3) → te ((wipe σ own).set i (some x)) H2 R)
    (hd : ∀ D H' vs, Same H H' → H D = none → H' D = some (.lst vs) → AtAll (fun a => a = D ∨ Z a) H' ((List.range n).map f) vs → Q D H') : ∀ D, H D = none → LcG J (gName i) tYes te own σ H D (Q D) := by
  intro D hD
  refine lc_it w (fun j H' => Same H H' ∧ ∃ vs, H' D = some (.lst vs) ∧ AtAll (fun a => a = D ∨ Z a) H' ((List.range j).map f) vs) ⟨same_new hD _, [], upd_same, .nil⟩ (fun j H' _ q => hG H' q.1) (fun j x H1 H' hj q y => ?_) (fun H' q => ?_)
  · obtain ⟨rfl, ex⟩ := hY _ _ _ _ y
    obtain ⟨s1, vs, eD, aD⟩ := q
    refine ⟨hw x, iteT (B := False) (hs D hD j x H' hj ex s1 (.of eD) _ fun v H3 s3 a3 => ⟨vs, s3 _ _ eD, ?_, Same.upd_new (s1.trans s3) hD _, vs ++ [v], upd_same, ?_⟩)⟩
    · rw [aD.len, List.length_map, List.length_range, sizeLine_eq]; omega
    · have sD : SB (fun a => a = D ∨ Z a) H3 (upd H3 D (.lst (vs ++ [v]))) := .self (Z := fun a => a = D ∨ Z a) (.inl rfl) _
      rw [List.range_succ, List.map_append]
      exact AtAll.append ((aD.same s3).sb sD) (.cons (a3.sb sD) .nil)
  · obtain ⟨s1, vs, eD, aD⟩ := q
    exact hd D H' vs s1 hD eD aD
theorem range_map_get {α β : Type} (g : α → β) (d : α) (xs : List α) : (List.range xs.length).map (fun j => g ((xs[j]?).getD d)) = xs.map g := by
  refine List.ext_getElem? fun j => ?_
  rw [List.getElem?_map, List.getElem?_map]
  by_cases h : j < xs.length
  · rw [List.getElem?_range h]
    show some (g ((xs[j]?).getD d)) = _
    rw [List.getElem?_eq_getElem h]
    rfl
  · rw [List.getElem?_eq_none (by rw [List.length_range]; omega), List.getElem?_eq_none (by omega)]
    rfl
theorem walk_enumT {K : PySem.W.Frag} {a : Addr} {xs : List V} : Walk (IteT K a) xs.length (fun H => SqT K H a xs) (YPair (fun i => some (.int (i : Nat))) (fun i => xs[i]?)) := by
  refine ⟨fun i _ hi q => ⟨xs, xs[i], q, by simp [hi]⟩, fun _ q => ⟨xs, q, Nat.le_refl _⟩, fun i H v H' _ q y => ?_⟩
  obtain ⟨T, x, h1, h2, h3, h4⟩ := y
  exact ⟨T, .int (i : Nat), x, h1, h2, h3, rfl, h4 xs q⟩
/-- a dict made over anything that stays -/
theorem dc_it {J : It} {n : Nat} {G : Hp → Prop} {Y : Nat → Hp → V → Hp → Prop} (w : Walk J n G Y) {g : TG} {tt : TT} {tk tv : TE} {own : List Nat} {σ : L2.St} {H1 : Hp} {D : Addr} {Qd : Hp → Prop} (Pv : Nat → Hp → Prop) (h0 : Pv 0 (upd H1 D (.dK []))) (hG : ∀ i H, i ≤ n → Pv i H → G H)
    (hs : ∀ i x H H', i < n → Pv i H → Y i H x H' → g x (wipe σ own) H' fun σ2 H2 => wipe σ2 own = wipe σ own ∧ tt σ2 H2 fun b H3 =>
      if b = true then (tk σ2 H3 fun y H4 => tv σ2 H4 fun z H5 => ∃ kvs k, y = kV k ∧ H5 D = some (.dK kvs) ∧ kvs.length < sizeLine ∧ Pv (i + 1) (upd H5 D (.dK (putK kvs k z)))) else Pv (i + 1) H3) (hd : ∀ H, Pv n H → Qd H) :
    ∃ W : Nat → Nat → Hp → Prop, (∃ m, W 0 m (upd H1 D (.dK []))) ∧ ∀ i m H, W i m H → ((J.stop i H ∧ Qd H) ∨ (J.go i H ∧ ∃ Nx : Hp → Prop, (∀ H', Nx H' → ∃ m', m' < m ∧ W (i + 1) m' H') ∧
      ∀ x H', J.yld i H x H' → g x (wipe σ own) H' fun σ2 H2 => wipe σ2 own = wipe σ own ∧ tt σ2 H2 fun b H3 => if b = true then (tk σ2 H3 fun y H4 => tv σ2 H4 fun z H5 => ∃ kvs k, y = kV k ∧ H5 D = some (.dK kvs) ∧ kvs.length < sizeLine ∧ Nx (upd H5 D (.dK (putK kvs k z)))) else Nx H3)) := by
  refine ⟨fun i m H => m = n - i ∧ i ≤ n ∧ Pv i H, ⟨n, by simp, Nat.zero_le _, h0⟩, ?_⟩
  rintro i m H ⟨rfl, hi, p⟩
  have q := hG i H hi p
  by_cases hlt : i < n
  · exact .inr ⟨w.goes i H hlt q, Pv (i + 1), fun H' p' => ⟨n - (i + 1), by omega, rfl, hlt, p'⟩, fun x H' y => hs i x H H' hlt p (w.yields i H x H' hlt q y)⟩
  · have e : i = n := by omega
    subst e
    exact .inl ⟨w.stops H q, hd H p⟩
/-! ### small facts -/
theorem get_snoc {α : Type} {as : List α} {x a : α} {i : Nat} (h : (as ++ [x])[i]? = some a) : as[i]? = some a ∨ (i = as.length ∧ a = x) := by
  rw [List.getElem?_append] at h
  split at h
  · exact .inl h
  · next hi =>
    have h2 := (List.getElem?_eq_some_iff.mp h)
    obtain ⟨hl, e⟩ := h2
    have : i - as.length = 0 := by simpa using hl
    refine .inr ⟨by omega, ?_⟩
    rw [← e]
    simp
/-- a step as it lies at its place -/
theorem st_get {Z : Zone} {H : Hp} {ss : List Th} {vs : List V} {n : Int} {j : Nat} {w : V} (a : AtAll Z H ss vs) (h : ∀ st ∈ ss, StepIs n st) (e : vs[j]? = some w) :
    (ss[j]? = some .non ∧ w = .non) ∨ ∃ q m s', ss[j]? = some (.tup [.int m, .int s']) ∧ w = .ref q ∧ H q = some (.tup [.int m, .int s']) ∧ ¬ Z q ∧ 0 ≤ m ∧ m ≤ 60 ∧ 0 ≤ s' ∧ s' < n := by
  obtain ⟨d, ed, hd⟩ := a.get e
  rcases h d (List.mem_of_getElem? ed) with rfl | ⟨m, s', rfl, m0, m1, s0, s1⟩
  · exact .inl ⟨ed, hd⟩
  · obtain ⟨q, us, rfl, nq, eq', u1, us1, rfl, r1, u2, us2, rfl, r2, a3⟩ := hd
    cases r1; cases r2
    rw [show us2 = [] from a3] at eq'
    exact .inr ⟨q, m, s', ed, rfl, eq', nq, m0, m1, s0, s1⟩
/-- a step that lies alone -/
theorem st_at {Z : Zone} {H : Hp} {st : Th} {w : V} {n : Int} (hd : At Z H st w) (h : StepIs n st) :
    (st = .non ∧ w = .non) ∨ ∃ q m s', st = .tup [.int m, .int s'] ∧ w = .ref q ∧ H q = some (.tup [.int m, .int s']) ∧ ¬ Z q ∧ 0 ≤ m ∧ m ≤ 60 ∧ 0 ≤ s' ∧ s' < n := by
  rcases h with rfl | ⟨m, s', rfl, m0, m1, s0, s1⟩
  · exact .inl ⟨rfl, hd⟩
  · obtain ⟨q, us, rfl, nq, eq', u1, us1, rfl, r1, u2, us2, rfl, r2, a3⟩ := hd
    cases r1; cases r2
    rw [show us2 = [] from a3] at eq'
    exact .inr ⟨q, m, s', rfl, rfl, eq', nq, m0, m1, s0, s1⟩
theorem nd_inj {α : Type} [BEq α] [LawfulBEq α] {as : List α} (nd : as.Nodup) {i j : Nat} {a : α} (h1 : as[i]? = some a) (h2 : as[j]? = some a) : i = j := by
  obtain ⟨l1, q1⟩ := List.getElem?_eq_some_iff.mp h1
  obtain ⟨l2, q2⟩ := List.getElem?_eq_some_iff.mp h2
  have e1 := nd.idxOf_getElem i l1
  have e2 := nd.idxOf_getElem j l2
  rw [q1] at e1
  rw [q2] at e2
  exact e1.symm.trans e2
end KL
end
section
set_option maxHeartbeats 1000000
namespace KL
open PySem PySem.Spec PyProof.Rows L2
abbrev sc_nextsN : List Str := ["rows", "end", "steps", "step"]
abbrev s_nexts : Stmt := topS 21
theorem sc_nexts : FnScope ["rows", "end", "steps", "step"] ["rows"] (defScope s_nexts) := ⟨rfl, rfl, rfl, by decide +kernel, rfl, by decide +kernel, by decide +kernel⟩
def cs_nexts : Scope := match defBody s_nexts with
  | [.Return (some (.ListComp _ _ sc _)) _] => sc
  | _ => defScope s_nexts
abbrev sc_beforesN : List Str := ["rows", "found", "state", "followers", "follower", "row"]
abbrev s_befores : Stmt := topS 22
theorem sc_befores : FnScope ["rows", "found", "state", "followers", "follower", "row"] ["rows"] (defScope s_befores) := ⟨rfl, rfl, rfl, by decide +kernel, rfl, by decide +kernel, by decide +kernel⟩
/-- a list of lists, all of them new -/
def LLn (H0 H : Hp) (W : Addr) (ways : List (List Nat)) : Prop := ∃ as : List Addr, H W = some (.lst (as.map V.ref)) ∧ as.length = ways.length ∧ ∀ (i : Nat) (a : Addr) (ws : List Nat), as[i]? = some a → ways[i]? = some ws → H0 a = none ∧ H a = some (.lst (ws.map nV))
theorem LLn.ll {H0 H : Hp} {W : Addr} {ways : List (List Nat)} (h : LLn H0 H W ways) : LL H W ways :=
  let ⟨as, e, l, q⟩ := h
  ⟨as, e, l, fun i a ws ha hw => (q i a ws ha hw).2⟩
/-- a machine's rows as they lie -/
def spNexts : Sp := fun vs H Q _ => ∃ (Z : Zone) (pr : Addr) (us : List V) (z : Int) (rows : List Th), vs = [.ref pr] ∧ H pr = some (.tup us) ∧ AtAll Z H rows us ∧ MOk z rows ∧ ∀ N H', Same H H' → H N = none → LLn H H' N (nxs rows) → Q (.ref N) H'
def spBefores : Sp := fun vs H Q _ => ∃ (Z : Zone) (pr : Addr) (us : List V) (z : Int) (rows : List Th), vs = [.ref pr] ∧ H pr = some (.tup us) ∧ AtAll Z H rows us ∧ MOk z rows ∧ ∀ N (bs : List (List Nat)) H', Same H H' → H N = none → LL H' N bs → bs.length = rows.length → (∀ i t : Nat, t ∈ (bs[i]?).getD [] ↔ i ∈ ((nxs rows)[t]?).getD []) → Q (.ref N) H'
section
variable {P : Program} {w : World} {K : PySem.W.Frag} {mg : Str → Option Value} {base : Heap} {k : Nat}
theorem ok_nexts (d : Def K mg "nexts" s_nexts ["rows"]) : Cal P w K mg base CX0 (k + 1) "nexts" ["rows"] spNexts := by
  refine d.ok sc_nexts (fun vs H Q E h => ?_) (fun f cdv A outer s H vs Q E hr h => ?_)
  · obtain ⟨_, _, _, _, _, rfl, _⟩ := h; rfl
  obtain ⟨Z, pr, us, z, rows, rfl, epr, ar, ok, q⟩ := h
  refine ⟨_, (pss_one (ps_ret (pe_lc (own := [("end", 1), ("steps", 2)]) (g := (gTup K 2 (gCons (gName 1) (gCons (gName 2) gNil)))) (tt := tYes) rfl sc_nexts.nd (pi_tup (pv 0)) (blkOk_by (N := ["rows", "end", "steps", "step"]) (sc := defScope s_nexts) (by decide +kernel)) (fun _ _ _ _ _ => (pg_tup (by rfl) (pgs_cons (pg_name (i := 1) sc_nexts.nd rfl (Or.inl rfl)) (pgs_cons (pg_name (i := 2) sc_nexts.nd rfl (Or.inl rfl)) pgs_nil)))) (fun _ _ _ _ _ => pts_nil) (fun _ _ _ _ _ => (pe_lc (wi := iTup K (tVar 2)) (tt := tTest (tOp (fun x y H Q => y = .non ∧ Q (.bl (!decide (x = .non))) H) (tVar 3) (tC .non))) (own := [("step", 3)]) (g := gName 3) rfl sc_nexts.nd (pi_tup (pv 2)) (blkOk_by (N := ["rows", "end", "steps", "step"]) (sc := relS cs_nexts (defScope s_nexts)) (by decide +kernel)) (fun _ _ _ _ _ => (pg_name (i := 3) sc_nexts.nd rfl (Or.inl rfl))) (fun _ _ _ _ _ => (pts_one (pt_cmpR op_notN (pv 3) pe_non (nomark _)))) (fun _ _ _ _ _ => (pe_ix (r := rIxT K) ix_tup (pv 3) pe_int (fun _ _ => rfl)))))))), ?_⟩
  refine ⟨_, rfl, pr, rfl, ⟨_, .of epr⟩, fun D hD => lc_tup (xs := us) (fun j H' => Same H H' ∧ ∃ as : List Addr, H' D = some (.lst (as.map V.ref)) ∧ as.length = j ∧ ∀ (i : Nat) (a : Addr) (ws : List Nat), as[i]? = some a → (nxs rows)[i]? = some ws → a ≠ D ∧ H a = none ∧ H' a = some (.lst (ws.map nV)))
    ⟨same_new hD _, [], upd_same, rfl, fun i a ws h => nomatch h⟩ (fun j H' _ p' => .of (p'.1 _ _ epr)) (fun j x H' ex p' => ?_) (fun H1 p1 => ?_)⟩
  · obtain ⟨s', as, eD, la, ha⟩ := p'
    have hj : j < rows.length := by rw [← ar.len]; exact (List.getElem?_eq_some_iff.mp ex).1
    obtain ⟨pu, ve, ps, vs, e, ss, b1, b2, b3, b4, b5, b6, b7, b8, b9⟩ := row_at (ar.same s') ok hj
    rw [b1] at ex; cases ex
    refine ⟨pu, _, rfl, .of b2, rfl, ve, _, rfl, _, _, rfl, rfl, rfl, iteT (B := False) ?_⟩
    refine ⟨_, rfl, ps, rfl, ⟨_, .of b3⟩, fun D2 hD2 => lc_tup (xs := vs) (fun j2 G => Same H' G ∧ G D2 = some (.lst (((ss.take j2).filterMap tgt).map nV))) ⟨same_new hD2 _, upd_same⟩ (fun j2 G _ p2 => .of (p2.1 _ _ b3)) (fun j2 x2 G ex2 p2 => ?_) (fun G p2 => ?_)⟩
    · obtain ⟨sG, eD2⟩ := p2
      have z8 := ok.z8
      have lj : j2 < ss.length := by rw [← b8.len]; exact (List.getElem?_eq_some_iff.mp ex2).1
      have lf : (((ss.take j2).filterMap tgt).map nV).length < sizeLine := by
        rw [List.length_map, sizeLine_eq]
        have := List.length_filterMap_le tgt (ss.take j2)
        rw [List.length_take] at this
        omega
      refine ⟨rfl, _, rfl, rfl, _, rfl, ?_⟩
      rcases st_get (b8.same sG) b9 ex2 with ⟨f1, rfl⟩ | ⟨q2, m, s2, f1, rfl, f2, _, m0, m1, s0, s1⟩
      · refine iteF ⟨sG, ?_⟩
        rw [List.take_add_one, f1, List.filterMap_append]
        show G D2 = some (.lst (((List.take j2 ss).filterMap tgt ++ []).map nV))
        rw [List.append_nil]
        exact eD2
      · refine iteT ⟨_, rfl, q2, _, 1, .int s2, rfl, rfl, .of f2, rfl, _, eD2, lf, Same.upd_new sG hD2 _, ?_⟩
        rw [upd_same, List.take_add_one, f1, List.filterMap_append, List.map_append]
        show some (HO.lst (_ ++ [V.int s2])) = some (HO.lst (_ ++ [V.int ((s2.toNat : Nat) : Int)]))
        rw [show ((s2.toNat : Nat) : Int) = s2 by omega]
    · obtain ⟨sG, eD2⟩ := p2
      rw [b8.len, List.take_length] at eD2
      have n30 := ok.n30
      refine ⟨as.map V.ref, sG _ _ eD, by rw [List.length_map, la, sizeLine_eq]; omega, Same.upd_new (s'.trans sG) hD _, as ++ [D2], by rw [upd_same, List.map_append]; rfl, by rw [List.length_append, la]; rfl, fun i a ws ei ew => ?_⟩
      have nD : D2 ≠ D := fun e => by rw [e, eD] at hD2; cases hD2
      rcases get_snoc ei with h | ⟨rfl, rfl⟩
      · obtain ⟨n, na, ea⟩ := ha i a ws h ew
        exact ⟨n, na, by rw [upd_ne n]; exact sG _ _ ea⟩
      · rw [la, nxs_get b4] at ew
        cases ew
        exact ⟨nD, Same.free s' hD2, by rw [upd_ne nD]; exact eD2⟩
  · obtain ⟨s', as, eD, la, ha⟩ := p1
    exact q D H1 s' hD ⟨as, eD, by rw [la, nxs_len, ar.len], fun i a ws ea ew => (ha i a ws ea ew).2⟩
theorem ok_befores (Z : Zs mg) (c_nexts : Cal P w K mg base CX0 k "nexts" ["rows"] spNexts) (d : Def K mg "befores" s_befores ["rows"]) : Cal P w K mg base CX0 (k + 1) "befores" ["rows"] spBefores := by
  refine d.ok sc_befores (fun vs H Q E h => ?_) (fun f cdv A outer s H vs Q E hr h => ?_)
  · obtain ⟨_, _, _, _, _, rfl, _⟩ := h; rfl
  obtain ⟨Zn, pr, us, z, rows, rfl, epr, ar, ok, q⟩ := h
  refine ⟨_, (pss_cons (ps_setLc (i := 1) (own := [("row", 5)]) (g := gName 5) (tt := tYes) rfl sc_befores.nd rfl rfl (sw_true rfl rfl rfl (by decide +kernel)) (pi_tup (pv 0)) (blkOk_by (N := ["rows", "found", "state", "followers", "follower", "row"]) (sc := defScope s_befores) (by decide +kernel)) (fun _ _ _ _ _ => (pg_name (i := 5) sc_befores.nd rfl (Or.inl rfl))) (fun _ _ _ _ _ => pts_nil) (fun _ _ _ _ _ => (pe_lst pa_nil)))
      (pss_cons (ps_for PassesOwn.never rfl (pi_enum (by rfl) Z.enumerate (pa_cons (pe_cal c_nexts hr (by rfl) (pa_cons (pv 0) pa_nil)) pa_nil)) (pg_tup (by rfl) (pgs_cons (pg_name (i := 2) sc_befores.nd rfl (Or.inl rfl)) (pgs_cons (pg_name (i := 3) sc_befores.nd rfl (Or.inl rfl)) pgs_nil))) (pss_one (ps_for PassesOwn.never rfl (pi_list (pv 3)) (pg_name (i := 4) sc_befores.nd rfl (Or.inl rfl)) (pss_one (ps_expr (pe_bm PySem.F.plainAttrs_list PySem.F.slot_list_append PySem.F.type_list_append mt_append (pe_ix ix_list (pv 1) (pv 4) (fun _ _ => rfl)) (pa_cons (pv 2) pa_nil)))))))
      (pss_one (ps_ret (pv 1))))), ?_⟩
  have n30 := ok.n30
  -- found
  refine ⟨_, rfl, pr, rfl, ⟨_, .of epr⟩, fun D hD => lc_tup (xs := us) (fun j H' => Same H H' ∧ ∃ as : List Addr, H' D = some (.lst (as.map V.ref)) ∧ as.length = j ∧ as.Nodup ∧ ∀ a ∈ as, a ≠ D ∧ H a = none ∧ H' a = some (.lst []))
    ⟨same_new hD _, [], upd_same, rfl, List.nodup_nil, fun a h => nomatch h⟩ (fun j H' _ p' => .of (p'.1 _ _ epr)) (fun j x H' ex p' => ?_) (fun H1 p1 => ?_)⟩
  · obtain ⟨s', as, eD, la, nd, ha⟩ := p'
    have hj : j < rows.length := by rw [← ar.len]; exact (List.getElem?_eq_some_iff.mp ex).1
    refine ⟨rfl, iteT (B := False) ⟨(by show 0 ≤ sizeLine; decide), fun R nR => ?_⟩⟩
    have zR := same_new nR (.lst [])
    have nRD : R ≠ D := fun e => by rw [e, eD] at nR; cases nR
    refine ⟨as.map V.ref, zR _ _ eD, by rw [List.length_map, la, sizeLine_eq]; omega, Same.upd_new (s'.trans zR) hD _, as ++ [R], by rw [upd_same, List.map_append]; rfl, by rw [List.length_append, la]; rfl, ?_, fun a ma => ?_⟩
    · refine List.nodup_append.mpr ⟨nd, by simp, fun a ma b mb e => ?_⟩
      rw [List.mem_singleton.mp mb] at e
      subst e
      have := (ha a ma).2.2
      rw [nR] at this
      cases this
    · rcases List.mem_append.mp ma with ma | ma
      · obtain ⟨n1, n2, e⟩ := ha a ma
        exact ⟨n1, n2, by rw [upd_ne n1]; exact zR _ _ e⟩
      · rw [List.mem_singleton.mp ma]
        exact ⟨nRD, Same.free s' nR, by rw [upd_ne nRD]; exact upd_same⟩
  obtain ⟨s1, as, eD, la, nd, ha⟩ := p1
  have la' : as.length = rows.length := by rw [la, ar.len]
  -- for state, followers in enumerate(nexts(rows))
  refine ⟨_, rfl, Zn, pr, us, z, rows, rfl, s1 _ _ epr, ar.same s1, ok, fun N H2 s2 nN ll => ?_⟩
  obtain ⟨cs, eN, lc, hc⟩ := ll
  have lc' : cs.length = rows.length := by rw [lc, nxs_len]
  have dis : ∀ a ∈ as, H1 a ≠ none := fun a ma e => by rw [(ha a ma).2.2] at e; cases e
  have nNas : N ∉ as := fun m => dis N m nN
  have nDas : D ∉ as := fun m => (ha D m).1 rfl
  refine ⟨N, _, rfl, .of eN, for_it walk_enum (fun i σ' H' => SB (fun a => a ∈ as) H2 H' ∧ ∃ (bs : List (List Nat)) (y2 y3 y4 : Option V), σ' = [some (.ref pr), some (.ref D), y2, y3, y4, none] ∧ bs.length = rows.length ∧ (∀ (m : Nat) (a : Addr) (ws : List Nat), as[m]? = some a → bs[m]? = some ws → H' a = some (.lst (ws.map nV)) ∧ ws.length ≤ 8 * i) ∧ (∀ m t : Nat, t ∈ (bs[m]?).getD [] ↔ t < i ∧ m ∈ ((nxs rows)[t]?).getD []))
    ⟨.rfl', List.replicate rows.length [], none, none, none, rfl, List.length_replicate, fun m a ws em ew => ?_, fun m t => ?_⟩ (fun i σ' H' _ p' => .of (p'.1 _ _ nNas eN)) (fun i x σ' H0 H' hi p' y => ?_) (fun σ' H' p' => ?_)⟩
  · rw [List.getElem?_replicate] at ew
    split at ew
    · cases ew
      exact ⟨s2 _ _ (ha a (List.mem_of_getElem? em)).2.2, Nat.zero_le _⟩
    · cases ew
  · rw [List.getElem?_replicate]
    constructor
    · intro h
      split at h <;> exact absurd h (by simp)
    · intro h; omega
  · obtain ⟨sB, bs, y2, y3, y4, rfl, lb, hb, hm⟩ := p'
    obtain ⟨T, x1, x2, rfl, nT, rfl, e1, e2⟩ := y
    cases e1
    rw [List.length_map, lc'] at hi
    obtain ⟨ca, ec, rfl⟩ := map_get e2
    have ew : (nxs rows)[i]? = some ((nxs rows)[i]'(by rw [nxs_len]; exact hi)) := List.getElem?_eq_getElem _
    generalize (nxs rows)[i]'(by rw [nxs_len]; exact hi) = ws at ew
    obtain ⟨nca, eca⟩ := hc i ca ws ec ew
    have ncas : ca ∉ as := fun m => dis ca m nca
    have zT := same_new nT (.tup [V.int (i : Nat), V.ref ca])
    have lws : ws.length ≤ 8 := by
      obtain ⟨e, ss, er, h1, h2, h3⟩ := ok.row hi
      rw [nxs_get er] at ew
      cases ew
      have := List.length_filterMap_le tgt ss
      have := ok.z8
      show (ss.filterMap tgt).length ≤ 8
      omega
    refine ⟨T, _, rfl, .of upd_same, rfl, _, _, rfl, _, _, rfl, rfl, ?_⟩
    have sB1 : SB (fun a => a ∈ as) H2 (upd H0 T (.tup [V.int (i : Nat), V.ref ca])) := sB.trans (.of zT)
    refine ⟨_, rfl, ca, rfl, ⟨_, .of (sB1 _ _ ncas eca)⟩, for_list (xs := ws.map nV) (fun j σ' H' => SB (fun a => a ∈ as) H2 H' ∧ ∃ (bs : List (List Nat)) (y4 : Option V), σ' = [some (.ref pr), some (.ref D), some (.int (i : Nat)), some (.ref ca), y4, none] ∧ bs.length = rows.length ∧ (∀ (m : Nat) (a : Addr) (ws : List Nat), as[m]? = some a → bs[m]? = some ws → H' a = some (.lst (ws.map nV)) ∧ ws.length ≤ 8 * i + j) ∧ (∀ m t : Nat, t ∈ (bs[m]?).getD [] ↔ (t < i ∧ m ∈ ((nxs rows)[t]?).getD []) ∨ (t = i ∧ m ∈ ws.take j)))
      ⟨sB1, bs, _, rfl, lb, fun m a ws em ew => ⟨zT _ _ (hb m a ws em ew).1, (hb m a ws em ew).2⟩, fun m t => by rw [hm, List.take_zero]; simp⟩ (fun j σ' H' _ p' => .of (p'.1 _ _ ncas eca)) (fun j x σ' H' ex p' => ?_) (fun σ' H' p' => ?_)⟩
    · obtain ⟨sC, bs, y4, rfl, lb, hb, hm⟩ := p'
      obtain ⟨t, et, rfl⟩ := map_get ex
      have lt : t < rows.length := by
        have := ok.nx_lt i ws ew t (List.mem_of_getElem? et)
        rwa [nxs_len] at this
      have lj : j < 8 := Nat.lt_of_lt_of_le (List.getElem?_eq_some_iff.mp et).1 lws
      have ea : as[t]? = some (as[t]'(by rw [la']; exact lt)) := List.getElem?_eq_getElem _
      generalize as[t]'(by rw [la']; exact lt) = af at ea
      have eb : bs[t]? = some (bs[t]'(by rw [lb]; exact lt)) := List.getElem?_eq_getElem _
      generalize bs[t]'(by rw [lb]; exact lt) = wt at eb
      obtain ⟨eaf, law⟩ := hb t af wt ea eb
      have maf := List.mem_of_getElem? ea
      refine ⟨_, rfl, _, rfl, D, _, (t : Int), .ref af, rfl, rfl, .of (sC _ _ nDas (s2 _ _ eD)), atI_nat (get_map ea), .inl ⟨rfl, _, .inl (.inl eaf)⟩, _, rfl, af, _, nV i, rfl, rfl, eaf, by rw [List.length_map, sizeLine_eq]; omega, ?_⟩
      refine ⟨sC.trans (.self (Z := fun a => a ∈ as) maf _), bs.set t (wt ++ [i]), _, rfl, by rw [List.length_set]; exact lb, fun m a ws2 em ew2 => ?_, fun m u => ?_⟩
      · by_cases hmt : t = m
        · subst hmt
          rw [List.getElem?_set_self (by rw [lb]; exact lt)] at ew2
          rw [ea] at em
          cases em; cases ew2
          exact ⟨by rw [upd_same, List.map_append]; rfl, by rw [List.length_append, List.length_singleton]; omega⟩
        · rw [List.getElem?_set_ne hmt] at ew2
          obtain ⟨e3, l3⟩ := hb m a ws2 em ew2
          have na : a ≠ af := fun e => by
            subst e
            exact hmt (nd_inj nd ea em)
          exact ⟨by rw [upd_ne na]; exact e3, by omega⟩
      · have tk : ws.take (j + 1) = ws.take j ++ [t] := by rw [List.take_add_one, et]; rfl
        by_cases hmt : t = m
        · subst hmt
          rw [List.getElem?_set_self (by rw [lb]; exact lt), tk]
          have h0 := hm t u
          rw [eb] at h0
          show u ∈ wt ++ [i] ↔ _
          have h0' : u ∈ wt ↔ _ := h0
          rw [List.mem_append, h0', List.mem_append, List.mem_singleton, List.mem_singleton]
          constructor
          · rintro ((h | h) | h)
            · exact .inl h
            · exact .inr ⟨h.1, .inl h.2⟩
            · exact .inr ⟨h, .inr rfl⟩
          · rintro (h | ⟨h, h' | h'⟩)
            · exact .inl (.inl h)
            · exact .inl (.inr ⟨h, h'⟩)
            · exact .inr h
        · rw [List.getElem?_set_ne hmt, hm m u, tk, List.mem_append, List.mem_singleton]
          constructor
          · rintro (h | h)
            · exact .inl h
            · exact .inr ⟨h.1, .inl h.2⟩
          · rintro (h | ⟨h, h' | h'⟩)
            · exact .inl h
            · exact .inr ⟨h, h'⟩
            · exact absurd h'.symm hmt
    · obtain ⟨sC, bs, y4, rfl, lb, hb, hm⟩ := p'
      rw [List.length_map] at hb hm
      refine ⟨sC, bs, _, _, _, rfl, lb, fun m a ws2 em ew2 => ⟨(hb m a ws2 em ew2).1, by have := (hb m a ws2 em ew2).2; omega⟩, fun m t => ?_⟩
      rw [hm m t, List.take_length]
      constructor
      · rintro (h | ⟨rfl, h⟩)
        · exact ⟨by omega, h.2⟩
        · exact ⟨by omega, by rw [ew]; exact h⟩
      · rintro ⟨h1, h2⟩
        by_cases e : t = i
        · subst e
          rw [ew] at h2
          exact .inr ⟨rfl, h2⟩
        · exact .inl ⟨by omega, h2⟩
  · obtain ⟨sB, bs, y2, y3, y4, rfl, lb, hb, hm⟩ := p'
    rw [List.length_map, lc'] at hm
    refine ⟨_, rfl, q D bs H' (fun b o hbo => sB _ _ (fun m => by rw [(ha b m).2.1] at hbo; cases hbo) (s2 _ _ (s1 _ _ hbo))) hD ⟨as, sB _ _ nDas (s2 _ _ eD), by rw [la', lb], fun m a ws em ew => (hb m a ws em ew).1⟩ lb fun m t => ?_⟩
    rw [hm]
    constructor
    · exact fun h => h.2
    · intro h
      refine ⟨?_, h⟩
      by_cases ht : t < rows.length
      · exact ht
      · rw [List.getElem?_eq_none (by rw [nxs_len]; omega)] at h
        cases h
end
end KL
end
section
set_option maxHeartbeats 1000000
namespace KL
open PySem PySem.Spec PyProof.Rows L2
abbrev sc_renumbered_stepN : List Str := ["step", "numbers"]
abbrev s_renumbered_step : Stmt := topS 25
theorem sc_renumbered_step : FnScope ["step", "numbers"] ["step", "numbers"] (defScope s_renumbered_step) := ⟨rfl, rfl, rfl, by decide +kernel, rfl, by decide +kernel, by decide +kernel⟩
abbrev sc_renumberedN : List Str := ["row", "numbers", "end", "steps", "step"]
abbrev s_renumbered : Stmt := topS 24
theorem sc_renumbered : FnScope ["row", "numbers", "end", "steps", "step"] ["row", "numbers"] (defScope s_renumbered) := ⟨rfl, rfl, rfl, by decide +kernel, rfl, by decide +kernel, by decide +kernel⟩
/-- the dict that numbers the states -/
def NumAt (H : Hp) (nd : Addr) (ks : List Nat) : Prop := ∃ kvs : List (Key × V), H nd = some (.dK kvs) ∧ ∀ s : Nat, valV kvs (Sum.inl (s : Int)) = if s ∈ ks then some (V.int (ks.idxOf s : Nat)) else none
theorem NumAt.same {H H' : Hp} {nd : Addr} {ks : List Nat} (h : NumAt H nd ks) (s : Same H H') : NumAt H' nd ks := let ⟨kvs, e, q⟩ := h; ⟨kvs, s _ _ e, q⟩
def spRenS : Sp := fun vs H Q _ => ∃ (Z : Zone) (st : Th) (v : V) (nd : Addr) (ks : List Nat) (n : Int), vs = [v, .ref nd] ∧ At Z H st v ∧ StepIs n st ∧ NumAt H nd ks ∧ ∀ v' H', Same H H' → At (Trk H) H' (renS ks st) v' → Q v' H'
def spRenT : Sp := fun vs H Q _ => ∃ (Z : Zone) (r : Th) (v : V) (nd : Addr) (ks : List Nat) (z n : Int), vs = [v, .ref nd] ∧ At Z H r v ∧ rowB z n r = true ∧ z ≤ 8 ∧ NumAt H nd ks ∧ ∀ v' H', Same H H' → At (Trk H) H' (renT ks r) v' → Q v' H'
section
variable {P : Program} {w : World} {K : PySem.W.Frag} {mg : Str → Option Value} {base : Heap} {k : Nat}
theorem ok_renumbered_step (d : Def K mg "renumbered_step" s_renumbered_step ["step", "numbers"]) : Cal P w K mg base CX0 (k + 1) "renumbered_step" ["step", "numbers"] spRenS := by
  refine d.ok sc_renumbered_step (fun vs H Q E h => ?_) (fun f cdv A outer s H vs Q E hr h => ?_)
  · obtain ⟨_, _, _, _, _, _, rfl, _⟩ := h; rfl
  obtain ⟨Z, st, v, nd, ks, n, rfl, h, hst, ⟨kvs, ed, hv⟩, q⟩ := h
  refine ⟨_, (pss_cons (ps_if (PW.pt (pw_or (pt_cmpR op_isN (pv 0) pe_non (nomark _)) (pw_or1 (pt_cmp (pc_dnotin (hu_of hr) (pe_ix ix_tup (pv 0) pe_int (fun _ _ => rfl)) (pv 1)))))) (pss_one (ps_ret pe_non)) pss_nil)
      (pss_one (ps_ret (pe_tup (pa_cons (pe_ix ix_tup (pv 0) pe_int (fun _ _ => rfl)) (pa_cons (pe_dget (hu_of hr) (pv 1) (pe_ix ix_tup (pv 0) pe_int (fun _ _ => rfl)) (fun _ _ => rfl)) pa_nil)))))), ?_⟩
  rcases st_at h hst with ⟨rfl, rfl⟩ | ⟨p, m, s', rfl, rfl, ep, _, m0, m1, s0, s1⟩
  · exact ⟨_, rfl, rfl, _, rfl, iteB (fun _ => q _ H (Same.refl H) rfl) (fun e => nomatch e)⟩
  · obtain ⟨t, rfl⟩ : ∃ t : Nat, s' = (t : Int) := ⟨s'.toNat, by omega⟩
    have hk := hv t
    have hd := DGet.k (k := (Sum.inl (t : Int) : Key)) ed
    rw [hk] at hd
    refine ⟨_, rfl, rfl, _, rfl, iteB (fun e => nomatch e) (fun _ => ?_)⟩
    refine ⟨_, rfl, p, _, 1, .int t, rfl, rfl, .of ep, rfl, _, rfl, nd, _, rfl, hd, _, rfl, ?_⟩
    by_cases ht : t ∈ ks
    · rw [if_pos ht] at hd ⊢
      refine iteB (fun e => nomatch e) (fun _ => ?_)
      refine ⟨_, rfl, p, _, 0, .int m, rfl, rfl, .of ep, rfl, _, rfl, _, rfl, p, _, 1, .int t, rfl, rfl, .of ep, rfl, nd, _, rfl, hd, (by show 2 ≤ sizeLine; decide), fun p2 n2 => ?_⟩
      refine q _ _ (same_new n2 _) ?_
      rw [renS, Int.toNat_natCast, if_pos ht]
      exact ⟨p2, _, rfl, Trk.not n2, upd_same, .cons rfl (.cons rfl .nil)⟩
    · rw [if_neg ht]
      refine iteB (fun _ => q _ H (Same.refl H) ?_) (fun e => nomatch e)
      rw [renS, Int.toNat_natCast, if_neg ht]
      rfl
theorem ok_renumbered (Z : Zs mg) (c_renumbered_step : Cal P w K mg base CX0 k "renumbered_step" ["step", "numbers"] spRenS) (d : Def K mg "renumbered" s_renumbered ["row", "numbers"]) : Cal P w K mg base CX0 (k + 1) "renumbered" ["row", "numbers"] spRenT := by
  refine d.ok sc_renumbered (fun vs H Q E h => ?_) (fun f cdv A outer s H vs Q E hr h => ?_)
  · obtain ⟨_, _, _, _, _, _, _, rfl, _⟩ := h; rfl
  obtain ⟨Zn, r, v, nd, ks, z, n, rfl, h, hr2, z8, hn, q⟩ := h
  refine ⟨_, (pss_cons (ps_asg (pv 0) (pg_tup (by rfl) (pgs_cons (pg_name (i := 2) sc_renumbered.nd rfl (Or.inl rfl)) (pgs_cons (pg_name (i := 3) sc_renumbered.nd rfl (Or.inl rfl)) pgs_nil))))
      (pss_one (ps_ret (pe_tup (pa_cons (pv 2) (pa_cons (pe_callTy (T := "tuple") call_tuple_of (by rfl) Z.tuple (by decide +kernel) (pa_cons (pe_lc (own := [("step", 4)]) (g := gName 4) (tt := tYes) rfl sc_renumbered.nd (pi_tup (pv 3)) (blkOk_by (N := ["row", "numbers", "end", "steps", "step"]) (sc := defScope s_renumbered) (by decide +kernel)) (fun _ _ _ _ _ => (pg_name (i := 4) sc_renumbered.nd rfl (Or.inl rfl))) (fun _ _ _ _ _ => pts_nil) (fun _ _ _ _ _ => (pe_cal c_renumbered_step hr (by rfl) (pa_cons (pv 4) (pa_cons (pv 1) pa_nil))))) pa_nil)) pa_nil)))))), ?_⟩
  obtain ⟨e, ss, rfl, h1, h2, h3⟩ := rowB_is hr2
  obtain ⟨p, ve, w', rfl, ep, b1, b2⟩ := h.pair
  obtain ⟨ps, us, rfl, _, eps, as'⟩ := b2
  refine ⟨_, rfl, p, _, rfl, .of ep, rfl, _, _, rfl, _, _, rfl, rfl, ?_⟩
  have ls := as'.len
  refine ⟨_, rfl, _, rfl, ps, rfl, ⟨_, .of eps⟩, lc_newW (f := fun j => renS ks ((ss[j]?).getD .non)) walk_tup (fun _ _ _ _ h => h) (fun H' s' => .of (s' _ _ eps)) (by omega) (fun _ => rfl) (fun j x H2 hj ex s2 R hR => ?_) (fun D H4 vs4 s4 hD eD aD => ?_)⟩
  · obtain ⟨st, est, hst⟩ := as'.get ex
    refine ⟨_, rfl, _, rfl, Zn, st, x, nd, ks, n, rfl, hst.same s2, h3 st (List.mem_of_getElem? est), hn.same s2, fun v' H3 s3 a3 => hR v' H3 s3 ?_⟩
    rw [est]
    exact a3
  · refine ⟨D, vs4, rfl, .inl ⟨.of eD, fun p5 n5 => ?_⟩⟩
    have z5 := same_new n5 (.tup vs4)
    refine ⟨(by show 2 ≤ sizeLine; decide), fun p6 n6 => ?_⟩
    have z6 := same_new n6 (.tup [ve, .ref p5])
    have s6 := s4.trans (z5.trans z6)
    refine q _ _ s6 ⟨p6, _, rfl, fun t => Trk.not n6 (Trk.same (s4.trans z5) t), upd_same, .cons ?_ (.cons ⟨p5, vs4, rfl, fun t => Trk.not n5 (Trk.same s4 t), z6 _ _ upd_same, ?_⟩ .nil)⟩
    · rcases h1 with rfl | ⟨i, rfl, _⟩
      · exact b1
      · exact b1
    · rw [ls, range_map_get (renS ks)] at aD
      exact ((aD.less fun a h => .inr h).same z5).same z6
end
end KL
end
section
set_option maxHeartbeats 1000000
namespace KL
open PySem PySem.Spec PyProof.Rows L2
abbrev sc_trimmedN : List Str := ["machine"]
abbrev s_trimmed : Stmt := topS 18
theorem sc_trimmed : FnScope ["machine"] ["machine"] (defScope s_trimmed) := ⟨rfl, rfl, rfl, by decide +kernel, rfl, by decide +kernel, by decide +kernel⟩
abbrev sc_trimmed_ofN : List Str := ["machine", "size", "rows", "come_to", "ending", "left", "numbers", "state", "row", "number"]
abbrev s_trimmed_of : Stmt := topS 19
theorem sc_trimmed_of : FnScope ["machine", "size", "rows", "come_to", "ending", "left", "numbers", "state", "row", "number"] ["machine"] (defScope s_trimmed_of) := ⟨rfl, rfl, rfl, by decide +kernel, rfl, by decide +kernel, by decide +kernel⟩
abbrev sc_textlessN : List Str := ["size"]
abbrev s_textless : Stmt := topS 20
theorem sc_textless : FnScope ["size"] ["size"] (defScope s_textless) := ⟨rfl, rfl, rfl, by decide +kernel, rfl, by decide +kernel, by decide +kernel⟩
def endB (rows : List Th) (s : Nat) : Bool := !isNon (endOf ((rows[s]?).getD .non))
theorem endB_iff {rows : List Th} {s : Nat} : endB rows s = true ↔ isEnd rows s := by
  unfold endB isEnd
  cases endOf ((rows[s]?).getD .non) <;> simp [isNon]
theorem isEnd_lt {rows : List Th} {s : Nat} (h : isEnd rows s) : s < rows.length := by
  by_cases hh : s < rows.length
  · exact hh
  · exact absurd (by rw [List.getElem?_eq_none (by omega)]; rfl) h
def endsL (rows : List Th) : List Nat := (List.range rows.length).filter (endB rows)
theorem mem_endsL {rows : List Th} {s : Nat} : s ∈ endsL rows ↔ isEnd rows s := by
  unfold endsL
  rw [List.mem_filter, List.mem_range, endB_iff]
  exact ⟨fun h => h.2, fun h => ⟨isEnd_lt h, h⟩⟩
theorem repV_single {α : Type} (k : Int) (x : α) : repV k [x] = List.replicate k.toNat x := by
  unfold repV
  induction k.toNat with
  | zero => rfl
  | succ n ih => rw [List.replicate_succ, List.flatten_cons, ih, List.replicate_succ]; rfl
theorem atAll_rep {Z : Zone} {H : Hp} : ∀ n : Nat, AtAll Z H (List.replicate n Th.non) (List.replicate n V.non)
  | 0 => .nil
  | n + 1 => .cons rfl (atAll_rep n)
theorem filt_t {p : Nat → Bool} {j : Nat} (h : p j = true) : (List.range (j + 1)).filter p = (List.range j).filter p ++ [j] := by
  rw [List.range_succ, List.filter_append, List.filter_cons, if_pos h]
  rfl
theorem filt_f {p : Nat → Bool} {j : Nat} (h : p j = false) : (List.range (j + 1)).filter p = (List.range j).filter p := by
  rw [List.range_succ, List.filter_append, List.filter_cons, if_neg (by rw [h]; exact Bool.false_ne_true), List.filter_nil, List.append_nil]
def spTrimOf : Sp := fun vs H Q _ => ∃ (Z : Zone) (u : V) (z : Int) (rows : List Th), vs = [u] ∧ At Z H (.tup [.int z, .tup rows]) u ∧ MOk z rows ∧ ∀ v H', Same H H' → At (Trk H) H' (trimT z rows) v → Q v H'
def spTextless : Sp := fun vs H Q _ => ∃ (z : Int), vs = [.int z] ∧ 0 ≤ z ∧ z ≤ 9 ∧ ∀ v H', Same H H' → At (Trk H) H' (.tup [.int z, .tup [bareRow z]]) v → Q v H'
def spTrimmed (CM : Addr) : Sp := fun vs H Q E => ∃ (Z : Zone) (u : V) (e : Th), vs = [u] ∧ At Z H e u ∧ shortT e = true ∧
  (∀ z rows, e = .tup [.int z, .tup rows] → MOk z rows → ∀ v H', Same H H' → At (Trk H) H' (trimT z rows) v → Q v H') ∧ (machB e = false → ∀ H', Same H H' → E (.ref CM) none H')
theorem put_len {κ : Type} [DecidableEq κ] (c : List (κ × V)) (k : κ) (x : V) : (putK c k x).length ≤ c.length + 1 := by
  unfold putK
  split
  · rw [List.length_map]; omega
  · rw [List.length_append]; exact Nat.le_refl _
theorem num_step {ks : List Nat} (nd : ks.Nodup) {kvs : List (Key × V)} {i t : Nat} (et : ks[i]? = some t) (hv : ∀ s : Nat, valV kvs (Sum.inl (s : Int)) = if s ∈ ks.take i then some (V.int ((ks.take i).idxOf s : Nat)) else none) :
    ∀ s : Nat, valV (putK kvs (Sum.inl (t : Int)) (V.int (i : Nat))) (Sum.inl (s : Int)) = if s ∈ ks.take (i + 1) then some (V.int ((ks.take (i + 1)).idxOf s : Nat)) else none := by
  intro s
  have hi := (List.getElem?_eq_some_iff.mp et).1
  have tk : ks.take (i + 1) = ks.take i ++ [t] := by rw [List.take_add_one, et]; rfl
  have li : (ks.take i).length = i := by rw [List.length_take]; omega
  have nt : t ∉ ks.take i := fun m => by
    obtain ⟨j, ej⟩ := List.mem_iff_getElem?.mp m
    have lj := (List.getElem?_eq_some_iff.mp ej).1
    rw [li] at lj
    rw [List.getElem?_take_of_lt lj] at ej
    exact Nat.ne_of_lt lj (nd_inj nd ej et)
  rw [valV_put, tk]
  by_cases e : s = t
  · subst e
    rw [if_pos rfl, if_pos (by simp), List.idxOf_append, if_neg nt, li]
    simp
  · rw [if_neg (fun h => e (by injection h with h; omega)), hv s]
    by_cases hs : s ∈ ks.take i
    · rw [if_pos hs, if_pos (List.mem_append_left _ hs), List.idxOf_append, if_pos hs]
    · rw [if_neg hs, if_neg (fun m => by
        rcases List.mem_append.mp m with m | m
        · exact hs m
        · exact e (List.mem_singleton.mp m))]
section
variable {P : Program} {w : World} {K : PySem.W.Frag} {mg : Str → Option Value} {base : Heap} {k : Nat}
theorem ok_textless (d : Def K mg "textless" s_textless ["size"]) : Cal P w K mg base CX0 (k + 1) "textless" ["size"] spTextless := by
  refine d.ok sc_textless (fun vs H Q E h => ?_) (fun f cdv A outer s H vs Q E hr h => ?_)
  · obtain ⟨_, rfl, _⟩ := h; rfl
  obtain ⟨z, rfl, z1, z8, q⟩ := h
  refine ⟨_, (pss_one (ps_ret (pe_tup (pa_cons (pv 0) (pa_cons (pe_tup (pa_cons (pe_tup (pa_cons pe_non (pa_cons (pe_op op_repN (pe_tup (pa_cons pe_non pa_nil)) (pv 0)) pa_nil))) pa_nil)) pa_nil))))), ?_⟩
  have fin : ∀ (pz : Addr) (G : Hp), Same H G → ¬ Trk H pz → G pz = some (.tup (List.replicate z.toNat .non)) → ∀ p2, G p2 = none → ∀ p3, upd G p2 (.tup [.non, .ref pz]) p3 = none → ∀ p4, upd (upd G p2 (.tup [.non, .ref pz])) p3 (.tup [.ref p2]) p4 = none → Q (.ref p4) (upd (upd (upd G p2 (.tup [.non, .ref pz])) p3 (.tup [.ref p2])) p4 (.tup [.int z, .ref p3])) := by
    intro pz G sG nz ez p2 n2 p3 n3 p4 n4
    have y2 := same_new n2 (.tup [.non, .ref pz])
    have y3 := same_new n3 (.tup [.ref p2])
    have y4 := same_new n4 (.tup [.int z, .ref p3])
    have y34 := y3.trans y4
    refine q _ _ (sG.trans (y2.trans y34)) ?_
    have tr : ∀ {a : Addr}, Trk H a → Trk G a := fun t => Trk.same sG t
    refine ⟨p4, _, rfl, fun t => Trk.not n4 (Trk.same (y2.trans y3) (tr t)), upd_same, .cons rfl (.cons ⟨p3, _, rfl, fun t => Trk.not n3 (Trk.same y2 (tr t)), y4 _ _ upd_same, .cons ⟨p2, _, rfl, fun t => Trk.not n2 (tr t), y34 _ _ upd_same, .cons rfl (.cons ⟨pz, _, rfl, nz, y2.trans y34 _ _ ez, ?_⟩ .nil)⟩ .nil⟩ .nil)⟩
    exact atAll_rep _
  refine ⟨_, rfl, (by show 1 ≤ sizeLine; decide), fun p1 np1 => ⟨_, rfl, p1, z, _, rfl, rfl, .of upd_same, by omega, by omega, (by show 1 ≤ 1000; decide), fun er => ?_, fun p5 np5 => ?_⟩⟩
  · rw [repV_single] at er
    refine ⟨(by show 2 ≤ sizeLine; decide), fun p2 n2 => ⟨(by show 1 ≤ sizeLine; decide), fun p3 n3 => ⟨(by show 2 ≤ sizeLine; decide), fun p4 n4 => ?_⟩⟩⟩
    exact fin p1 _ (same_new np1 _) (Trk.not np1) (by rw [upd_same, er]) p2 n2 p3 n3 p4 n4
  · rw [repV_single]
    have y5 := same_new np5 (.tup (List.replicate z.toNat V.non))
    refine ⟨(by show 2 ≤ sizeLine; decide), fun p2 n2 => ⟨(by show 1 ≤ sizeLine; decide), fun p3 n3 => ⟨(by show 2 ≤ sizeLine; decide), fun p4 n4 => ?_⟩⟩⟩
    exact fin p5 _ ((same_new np1 _).trans y5) (fun t => Trk.not np5 (Trk.same (same_new np1 _) t)) upd_same p2 n2 p3 n3 p4 n4
theorem ok_trimmed_of (Z : Zs mg) (c_nexts : Cal P w K mg base CX0 k "nexts" ["rows"] spNexts) (c_befores : Cal P w K mg base CX0 k "befores" ["rows"] spBefores)
    (c_spread : Cal P w K mg base CX0 k "spread" ["starts", "ways"] spSpread) (c_renumbered : Cal P w K mg base CX0 k "renumbered" ["row", "numbers"] spRenT) (c_textless : Cal P w K mg base CX0 k "textless" ["size"] spTextless) (d : Def K mg "trimmed_of" s_trimmed_of ["machine"]) : Cal P w K mg base CX0 (k + 1) "trimmed_of" ["machine"] spTrimOf := by
  refine d.ok sc_trimmed_of (fun vs H Q E h => ?_) (fun f cdv A outer s H vs Q E hr h => ?_)
  · obtain ⟨_, _, _, _, rfl, _⟩ := h; rfl
  obtain ⟨Zn, u, z, rows, rfl, hu, ok, q⟩ := h
  refine ⟨_, (pss_cons (ps_asg (pv 0) (pg_tup (by rfl) (pgs_cons (pg_name (i := 1) sc_trimmed_of.nd rfl (Or.inl rfl)) (pgs_cons (pg_name (i := 2) sc_trimmed_of.nd rfl (Or.inr rfl)) pgs_nil))))
      (pss_cons (ps_set (i := 3) sc_trimmed_of.nd rfl (Or.inr rfl) (pe_cal c_spread hr (by rfl) (pa_cons (pe_lst (pa_cons pe_int pa_nil)) (pa_cons (pe_cal c_nexts hr (by rfl) (pa_cons (pv 2) pa_nil)) pa_nil))))
      (pss_cons (ps_set (i := 4) sc_trimmed_of.nd rfl (Or.inr rfl) (pe_cal c_spread hr (by rfl) (pa_cons (pe_lc (own := [("state", 7), ("row", 8)]) (g := (gTup K 2 (gCons (gName 7) (gCons (gName 8) gNil)))) (tt := _) rfl sc_trimmed_of.nd (pi_enumT (by rfl) Z.enumerate (pa_cons (pv 2) pa_nil)) (blkOk_by (N := ["machine", "size", "rows", "come_to", "ending", "left", "numbers", "state", "row", "number"]) (sc := defScope s_trimmed_of) (by decide +kernel)) (fun _ _ _ _ _ => (pg_tup (by rfl) (pgs_cons (pg_name (i := 7) sc_trimmed_of.nd rfl (Or.inl rfl)) (pgs_cons (pg_name (i := 8) sc_trimmed_of.nd rfl (Or.inl rfl)) pgs_nil)))) (fun _ _ _ _ _ => (pts_one (pt_cmpR op_notN (pe_ix (r := rIxT K) ix_tup (pv 8) pe_int (fun _ _ => rfl)) pe_non (nomark _)))) (fun _ _ _ _ _ => (pv 7))) (pa_cons (pe_cal c_befores hr (by rfl) (pa_cons (pv 2) pa_nil)) pa_nil))))
      (pss_cons (ps_setLc (i := 5) (own := [("state", 7)]) (g := gName 7) (tt := _) rfl sc_trimmed_of.nd rfl rfl (sw_true rfl rfl rfl (by decide +kernel)) (pi_range1 (by rfl) Z.range (pa_cons (pe_callB (id := "len") call_len_seq (by rfl) Z.len (by decide +kernel) (pa_cons (pv 2) pa_nil)) pa_nil)) (blkOk_by (N := ["machine", "size", "rows", "come_to", "ending", "left", "numbers", "state", "row", "number"]) (sc := defScope s_trimmed_of) (by decide +kernel)) (fun _ _ _ _ _ => (pg_name (i := 7) sc_trimmed_of.nd rfl (Or.inl rfl))) (fun _ _ _ _ _ => (pts_one (PW.pt (pw_and (pt_val (pe_ix (r := rIxL K) ix_list (pv 3) (pv 7) (fun _ _ => rfl))) (pw_and1 (pt_val (pe_ix (r := rIxL K) ix_list (pv 4) (pv 7) (fun _ _ => rfl)))))))) (fun _ _ _ _ _ => (pv 7)))
      (pss_cons (ps_if (pt_not (pt_truth (pv 5) (by intro _; rfl))) (pss_one (ps_ret (pe_cal c_textless hr (by rfl) (pa_cons (pv 1) pa_nil)))) pss_nil)
      (pss_cons (ps_set (i := 6) sc_trimmed_of.nd rfl (Or.inr rfl) (pe_dc (own := [("number", 9), ("state", 7)]) (g := (gTup K 2 (gCons (gName 9) (gCons (gName 7) gNil)))) (tt := tYes) rfl sc_trimmed_of.nd (pi_enum (by rfl) Z.enumerate (pa_cons (pv 5) pa_nil)) (blkOk_by (N := ["machine", "size", "rows", "come_to", "ending", "left", "numbers", "state", "row", "number"]) (sc := defScope s_trimmed_of) (by decide +kernel)) (fun _ _ _ _ _ => (pg_tup (by rfl) (pgs_cons (pg_name (i := 9) sc_trimmed_of.nd rfl (Or.inl rfl)) (pgs_cons (pg_name (i := 7) sc_trimmed_of.nd rfl (Or.inl rfl)) pgs_nil)))) (fun _ _ _ _ _ => pts_nil) (fun _ _ _ _ _ => (pv 7)) (fun _ _ _ _ _ => (pv 9))))
      (pss_one (ps_ret (pe_tup (pa_cons (pv 1) (pa_cons (pe_callTy (T := "tuple") call_tuple_of (by rfl) Z.tuple (by decide +kernel) (pa_cons (pe_lc (own := [("state", 7)]) (g := gName 7) (tt := tYes) rfl sc_trimmed_of.nd (pi_list (pv 5)) (blkOk_by (N := ["machine", "size", "rows", "come_to", "ending", "left", "numbers", "state", "row", "number"]) (sc := defScope s_trimmed_of) (by decide +kernel)) (fun _ _ _ _ _ => (pg_name (i := 7) sc_trimmed_of.nd rfl (Or.inl rfl))) (fun _ _ _ _ _ => pts_nil) (fun _ _ _ _ _ => (pe_cal c_renumbered hr (by rfl) (pa_cons (pe_ix (r := rIxT K) ix_tup (pv 2) (pv 7) (fun _ _ => rfl)) (pa_cons (pv 6) pa_nil))))) pa_nil)) pa_nil))))))))))), ?_⟩
  have n1 := ok.n1
  have n30 := ok.n30
  have z1 := ok.z1
  have z8 := ok.z8
  obtain ⟨p, pr, us, rfl, ep, epr, ar, _⟩ := hu.mach
  have s1 := Same.refl H
  have lu := ar.len
  refine ⟨_, rfl, p, _, rfl, .of ep, rfl, _, _, rfl, _, _, rfl, rfl, ?_⟩
  -- come_to
  refine ⟨(by show 1 ≤ sizeLine; decide), fun L hL => ?_⟩
  have zL := same_new hL (.lst [V.int 0])
  refine ⟨_, rfl, Zn, pr, us, z, rows, rfl, zL _ _ epr, ar.same zL, ok, fun N H2 s2 nN ll => ?_⟩
  have s02 := zL.trans s2
  refine ⟨L, N, [0], nxs rows, rfl, s2 _ _ upd_same, ll.ll, by rw [nxs_len]; omega, by decide, fun s m => by rw [List.mem_singleton.mp m, nxs_len]; omega, ok.nx_lt, fun F1 f1 H3 s3 nF1 eF1 lf1 hf1 => ?_⟩
  have s03 := s02.trans s3
  -- ending
  refine ⟨_, rfl, pr, us, rfl, .of (s03 _ _ epr), fun D hD => lc_it walk_enumT (fun j H' => Same H3 H' ∧ H' D = some (.lst (((List.range j).filter (endB rows)).map nV))) ⟨same_new hD _, upd_same⟩ (fun j H' _ p' => .of (p'.1 _ _ (s03 _ _ epr))) (fun j x G G' hj p' y => ?_) (fun H4 p4 => ?_)⟩
  · obtain ⟨sG, eD⟩ := p'
    obtain ⟨T, x1, x2, rfl, nT, rfl, e1, e2⟩ := y
    cases e1
    have hj' : j < rows.length := by rw [← lu]; exact hj
    have zT := same_new nT (.tup [V.int (j : Nat), x2])
    obtain ⟨pu, ve, ps, vs, e, ss, b1, b2, b3, b4, b5, b6, b7, b8, b9⟩ := row_at (ar.same (s03.trans (sG.trans zT))) ok hj'
    have e2' : us[j]? = some x2 := e2
    rw [b1] at e2'
    cases e2'
    have eb : endB rows j = !isNon e := by unfold endB; rw [b4]; rfl
    have lf : (((List.range j).filter (endB rows)).map nV).length < sizeLine := by
      rw [List.length_map, sizeLine_eq]
      have := List.length_filter_le (endB rows) (List.range j)
      rw [List.length_range] at this
      omega
    refine ⟨T, _, rfl, .of upd_same, rfl, _, _, rfl, _, _, rfl, rfl, rfl, ?_⟩
    refine ⟨_, rfl, pu, _, 0, ve, rfl, rfl, .of b2, rfl, rfl, _, rfl, ?_⟩
    rw [b5.isN, ← eb]
    cases hb : endB rows j with
    | true =>
      refine iteT (B := False) ⟨_, rfl, _, zT _ _ eD, lf, Same.upd_new (sG.trans zT) hD _, ?_⟩
      rw [upd_same, filt_t hb, List.map_append]
      rfl
    | false =>
      refine iteF (A := False) ⟨sG.trans zT, ?_⟩
      rw [filt_f hb]
      exact zT _ _ eD
  obtain ⟨s4, eD⟩ := p4
  rw [lu] at eD
  have s04 := s03.trans s4
  refine ⟨_, rfl, Zn, pr, us, z, rows, rfl, s04 _ _ epr, ar.same s04, ok, fun N2 bs H5 s5 nN2 ll2 lb hb => ?_⟩
  have s05 := s04.trans s5
  have eE : (endsL rows).length ≤ rows.length := by
    have := List.length_filter_le (endB rows) (List.range rows.length)
    rw [List.length_range] at this
    exact this
  refine ⟨D, N2, endsL rows, bs, rfl, s5 _ _ eD, ll2, by omega, by omega, fun s m => by rw [lb]; exact isEnd_lt (mem_endsL.mp m), fun i ws ei t mt => ?_, fun F2 f2 H6 s6 nF2 eF2 lf2 hf2 => ?_⟩
  · have mt' : t ∈ (bs[i]?).getD [] := by rw [ei]; exact mt
    have := (hb i t).mp mt'
    rw [lb]
    by_cases ht : t < rows.length
    · exact ht
    · rw [List.getElem?_eq_none (by rw [nxs_len]; omega)] at this
      cases this
  have s06 := s05.trans s6
  have s36 := s4.trans (s5.trans s6)
  -- left
  refine ⟨_, rfl, pr, us, rfl, .inr (.of (s06 _ _ epr)), _, rfl, by rw [lu]; omega, by rw [lu]; omega, ?_⟩
  rw [lu, Int.toNat_natCast]
  have bt : ∀ j : Nat, j < rows.length → ∃ b1 b2, f1[j]? = some b1 ∧ f2[j]? = some b2 ∧ (b1 && b2) = keepB rows j := fun j hj => by
    have h1 : f1[j]? = some (f1[j]'(by rw [lf1, nxs_len]; exact hj)) := List.getElem?_eq_getElem _
    have h2 : f2[j]? = some (f2[j]'(by rw [lf2, lb]; exact hj)) := List.getElem?_eq_getElem _
    refine ⟨_, _, h1, h2, ?_⟩
    have i1 := hf1 j
    have i2 := hf2 j
    rw [h1] at i1
    rw [h2, RS.ends hb] at i2
    rw [Bool.eq_iff_iff, Bool.and_eq_true, keepB_iff]
    constructor
    · rintro ⟨a1, a2⟩
      refine ⟨i1.mp (by rw [a1]), ?_⟩
      obtain ⟨e, me, re⟩ := i2.mp (by rw [a2])
      exact ⟨e, re, mem_endsL.mp me⟩
    · rintro ⟨r1, e, re, he⟩
      exact ⟨Option.some.inj (i1.mpr r1), Option.some.inj (i2.mpr ⟨e, mem_endsL.mpr he, re⟩)⟩
  refine lc_valW (f := nV) (p := keepB rows) (walk_range (lo := 0)) (fun _ _ _ _ h => h) (fun _ _ => trivial) (by omega) (fun _ => rfl) (fun j x G hj ex sG R hR => ?_) (fun j x G hj ex hp sG R hR => ?_) (fun L2 H7 s7 nL2 eL2 => ?_)
  · subst ex
    obtain ⟨b1, b2, h1, h2, hk⟩ := bt j hj
    refine ⟨_, rfl, _, rfl, F1, _, _, .bl b1, rfl, rfl, .of (sG _ _ (s36 _ _ eF1)), by rw [Int.zero_add]; exact atI_nat (get_map h1), b1, rfl, ?_⟩
    have r' := hR G (Same.refl G)
    cases b1 with
    | true =>
      refine iteT ⟨_, rfl, _, rfl, F2, _, _, .bl b2, rfl, rfl, .of (sG _ _ eF2), by rw [Int.zero_add]; exact atI_nat (get_map h2), b2, rfl, ?_⟩
      rw [← hk] at r'
      exact r'
    | false =>
      refine iteF ?_
      rw [← hk] at r'
      exact r'
  · subst ex
    refine ⟨_, rfl, ?_⟩
    show R (V.int (0 + (j : Int))) G
    rw [Int.zero_add]
    exact hR G (Same.refl G)
  have s07 := s06.trans s7
  have eK : H7 L2 = some (.lst ((keep rows).map nV)) := eL2
  -- if not left
  refine ⟨_, rfl, _, .inl ⟨_, .of eK, rfl⟩, iteB (fun e1 => ?_) (fun e1 => ?_)⟩
  · have hk : keep rows = [] := by
      cases h : keep rows with
      | nil => rfl
      | cons a b => rw [h] at e1; cases e1
    have eT : trimT z rows = .tup [.int z, .tup [bareRow z]] := by unfold trimT trimL; rw [if_pos hk]
    refine ⟨_, rfl, z, rfl, by omega, by omega, fun v G sG aG => ?_⟩
    refine q v G ((s1.trans s07).trans sG) ?_
    rw [eT]
    exact aG.less fun a t => Trk.same (s1.trans s07) t
  · have hk : keep rows ≠ [] := fun h => by rw [h] at e1; cases e1
    -- numbers
    refine ⟨_, rfl, L2, _, rfl, .of eK, fun D2 hD2 => dc_it walk_enum (fun j G => Same H7 G ∧ ∃ kvs : List (Key × V), G D2 = some (.dK kvs) ∧ kvs.length ≤ j ∧ ∀ s : Nat, valV kvs (Sum.inl (s : Int)) = if s ∈ (keep rows).take j then some (V.int (((keep rows).take j).idxOf s : Nat)) else none)
      ⟨same_new hD2 _, [], upd_same, Nat.le_refl _, fun s => rfl⟩ (fun j G _ p' => .of (p'.1 _ _ eK)) (fun j x G G' hj p' y => ?_) (fun H8 p8 => ?_)⟩
    · obtain ⟨sG, kvs, eD2, lk, hv⟩ := p'
      obtain ⟨T, x1, x2, rfl, nT, rfl, y1, y2⟩ := y
      cases y1
      obtain ⟨t, et, rfl⟩ := map_get y2
      have zT := same_new nT (.tup [V.int (j : Nat), nV t])
      have lj := (List.getElem?_eq_some_iff.mp et).1
      have lkp := keep_len rows
      refine ⟨T, _, rfl, .of upd_same, rfl, _, _, rfl, _, _, rfl, rfl, rfl, iteT (B := False) ?_⟩
      refine ⟨_, rfl, _, rfl, kvs, Sum.inl (t : Int), rfl, zT _ _ eD2, by rw [sizeLine_eq]; omega, Same.upd_new (sG.trans zT) hD2 _, _, upd_same, ?_, num_step (keep_nodup rows) et hv⟩
      have := put_len kvs (Sum.inl (t : Int)) (V.int (j : Nat))
      omega
    obtain ⟨s8, kvs, eD2, lk, hv⟩ := p8
    rw [List.length_map, List.take_length] at hv
    have na : NumAt H8 D2 (keep rows) := ⟨kvs, eD2, hv⟩
    have s08 := s07.trans s8
    -- the rows
    refine ⟨_, rfl, _, rfl, L2, rfl, ⟨_, .of (s8 _ _ eK)⟩, lc_newW (f := fun j => renT (keep rows) ((rows[((keep rows)[j]?).getD 0]?).getD .non)) walk_list (fun _ _ _ _ h => h) (fun H' s' => .of (s' _ _ (s8 _ _ eK))) (by rw [List.length_map]; have := keep_len rows; omega) (fun _ => rfl) (fun j x G hj ex sG R hR => ?_) (fun D3 H9 vs9 s9 hD3 eD3 aD3 => ?_)⟩
    · obtain ⟨t, et, rfl⟩ := map_get ex
      have mk := List.mem_of_getElem? et
      have lt := (mem_keep.mp mk).1
      have s0G := s08.trans sG
      obtain ⟨e, ss, er, h1, h2, h3⟩ := ok.row lt
      obtain ⟨ur, eu, hur⟩ := (ar.same s0G).at er
      refine ⟨_, rfl, _, rfl, pr, us, _, ur, rfl, rfl, .of (s0G _ _ epr), atI_nat eu, _, rfl, Zn, _, ur, D2, keep rows, z, rows.length, rfl, hur, rowB_of h1 h2 h3, z8, na.same sG, fun v' G2 s2' a2 => hR v' G2 s2' ?_⟩
      rw [et]
      show At (Trk G) G2 (renT (keep rows) ((rows[t]?).getD .non)) v'
      rw [er]
      exact a2
    · refine ⟨D3, vs9, rfl, .inl ⟨.of eD3, fun p5 n5 => ?_⟩⟩
      have y5 := same_new n5 (.tup vs9)
      refine ⟨(by show 2 ≤ sizeLine; decide), fun p6 n6 => ?_⟩
      have y6 := same_new n6 (.tup [.int z, .ref p5])
      have sA := (s1.trans s08).trans s9
      have eT : trimT z rows = .tup [.int z, .tup ((keep rows).map fun s => renT (keep rows) ((rows[s]?).getD .non))] := by unfold trimT trimL; rw [if_neg hk]
      refine q _ _ (sA.trans (y5.trans y6)) ?_
      rw [eT]
      refine ⟨p6, _, rfl, fun t => Trk.not n6 (Trk.same (sA.trans y5) t), upd_same, .cons rfl (.cons ⟨p5, vs9, rfl, fun t => Trk.not n5 (Trk.same sA t), y6 _ _ upd_same, ?_⟩ .nil)⟩
      rw [List.length_map, range_map_get (fun s => renT (keep rows) ((rows[s]?).getD .non)) 0] at aD3
      exact ((aD3.less fun a h => .inr (Trk.same (s1.trans s08) h)).same y5).same y6
theorem ok_trimmed {CM : Addr} (c_demand_machine : Cal P w K mg base (L2.CX P w) k "demand_machine" ["thing"] (spDemand CM)) (c_trimmed_of : Cal P w K mg base CX0 k "trimmed_of" ["machine"] spTrimOf) (d : Def K mg "trimmed" s_trimmed ["machine"]) : Cal P w K mg base (L2.CX P w) (k + 1) "trimmed" ["machine"] (spTrimmed CM) := by
  refine d.okX sc_trimmed (fun vs H Q E h => ?_) (fun f cdv A outer s H vs Q E hr h => ?_)
  · obtain ⟨_, _, _, rfl, _⟩ := h; rfl
  obtain ⟨Zn, u, e, rfl, hu, se, qr, qm⟩ := h
  refine ⟨_, (pss_cons (ps_expr (pe_calE (E := E) c_demand_machine hr (by rfl) (takes_of rfl rfl rfl rfl) (pa_cons (pv 0) pa_nil)))
      (pss_one (ps_ret (pe_cal c_trimmed_of hr (by rfl) (pa_cons (pv 0) pa_nil))))), ?_⟩
  refine ⟨_, rfl, Zn, u, e, rfl, hu, se, fun em H1 s1 => ?_, fun em H1 s1 => qm em H1 s1⟩
  obtain ⟨z, rows, rfl, ok⟩ := machB_ok em
  exact ⟨_, rfl, Zn, u, z, rows, rfl, hu.same s1, ok, fun v H2 s2 a2 => qr z rows rfl ok v H2 (s1.trans s2) (a2.less fun a t => Trk.same s1 t)⟩
end
end KL
end
section
set_option maxHeartbeats 1000000
namespace KL
open PySem PySem.Spec PyProof.Rows L2
theorem flat_ns (fs : List Nat) : (fs.map nV).all flatV = true := by
  rw [List.all_eq_true]
  intro x m
  obtain ⟨i, _, rfl⟩ := List.mem_map.mp m
  rfl
theorem inV_ns (t : Nat) (fs : List Nat) : inV (nV t) (fs.map nV) = decide (t ∈ fs) := by
  induction fs with
  | nil => rfl
  | cons a r ih =>
    show (eqV (nV a) (nV t) || inV (nV t) (r.map nV)) = _
    rw [ih]
    show (((a : Int) == (t : Int)) || decide (t ∈ r)) = _
    by_cases e : a = t
    · subst e
      simp
    · have : ((a : Int) == (t : Int)) = false := beq_eq_false_iff_ne.mpr (by omega)
      rw [this, Bool.false_or]
      exact decide_eq_decide.mpr ⟨fun m => List.mem_cons_of_mem _ m, fun m => (List.mem_cons.mp m).resolve_left (fun h => e h.symm)⟩
theorem notin_ns (t : Nat) (fs : List Nat) : (!inV (nV t) (fs.map nV)) = true ↔ t ∉ fs := by
  rw [inV_ns]
  by_cases h : t ∈ fs
  · rw [decide_eq_true h]; simp [h]
  · rw [decide_eq_false h]; simp [h]
def spLNexts : Sp := fun vs H Q _ => ∃ (Z : Zone) (r : Th) (v : V) (z n : Int), vs = [v] ∧ At Z H r v ∧ rowB z n r = true ∧ z ≤ 8 ∧ ∀ N H', Same H H' → H N = none → H' N = some (.lst ((nxr r).map nV)) → Q (.ref N) H'
def spFresh : Sp := fun vs H Q _ => ∃ (A B : Addr) (fs ms : List Nat), vs = [.ref A, .ref B] ∧ H A = some (.lst (fs.map nV)) ∧ H B = some (.lst (ms.map nV)) ∧ ms.length ≤ 1000 ∧ ∀ (N : Addr) (fr : List Nat) (H' : Hp), Same H H' → H N = none → H' N = some (.lst (fr.map nV)) → fr.length ≤ ms.length → fr.Nodup → (∀ x, x ∈ fr ↔ x ∈ ms ∧ x ∉ fs) → Q (.ref N) H'
def spReached : Sp := fun vs H Q _ => ∃ (Z : Zone) (pr : Addr) (us : List V) (z : Int) (rows : List Th) (b : Nat), vs = [.ref pr, .int (b : Nat)] ∧ H pr = some (.tup us) ∧ AtAll Z H rows us ∧ MOk z rows ∧ b < rows.length ∧ ∀ (N : Addr) (fs : List Nat) (H' : Hp), Same H H' → H N = none → H' N = some (.lst (fs.map nV)) → fs.Nodup → (∀ x, x ∈ fs ↔ Rc rows b x) → Q (.ref N) H'
def spLEnds : Sp := fun vs H Q _ => ∃ (Z : Zone) (pr : Addr) (us : List V) (z : Int) (rows : List Th) (b : Nat), vs = [.ref pr, .int (b : Nat)] ∧ H pr = some (.tup us) ∧ AtAll Z H rows us ∧ MOk z rows ∧ b < rows.length ∧ ∀ H', Same H H' → Q (.bl (lvEB rows b)) H'
/-- what a walk by turns holds -/
structure RI (rows : List Th) (b i : Nat) (fs : List Nat) : Prop where
  nd : fs.Nodup
  mb : b ∈ fs
  snd : ∀ x ∈ fs, Rc rows b x
  clo : ∀ (j x : Nat), j < i → fs[j]? = some x → ∀ t ∈ ((nxs rows)[x]?).getD [], t ∈ fs
theorem nd_len {n : Nat} {fs : List Nat} (nd : fs.Nodup) (h : ∀ x ∈ fs, x < n) : fs.length ≤ n := by
  have := nd.length_le_of_subset (l₂ := List.range n) (fun x m => List.mem_range.mpr (h x m))
  rwa [List.length_range] at this
theorem RI.len {z : Int} {rows : List Th} {b i : Nat} {fs : List Nat} (h : RI rows b i fs) (ok : MOk z rows) (hb : b < rows.length) : fs.length ≤ rows.length := nd_len h.nd fun x m => ok.rc_lt hb (h.snd x m)
theorem RI.done {z : Int} {rows : List Th} {b : Nat} {fs : List Nat} (ok : MOk z rows) (hb : b < rows.length) (h : RI rows b rows.length fs) (x : Nat) : x ∈ fs ↔ Rc rows b x := by
  refine ⟨h.snd x, fun r => ?_⟩
  induction r with
  | base m => rw [List.mem_singleton.mp m]; exact h.mb
  | step r m ih =>
    obtain ⟨j, ej⟩ := List.mem_iff_getElem?.mp ih
    have lj := (List.getElem?_eq_some_iff.mp ej).1
    have := h.len ok hb
    exact h.clo j _ (by omega) ej _ m
theorem RI.skip {rows : List Th} {b i : Nat} {fs : List Nat} (h : RI rows b i fs) (hi : fs.length ≤ i) : RI rows b (i + 1) fs where
  nd := h.nd
  mb := h.mb
  snd := h.snd
  clo := fun j x hj ej => h.clo j x (by have := (List.getElem?_eq_some_iff.mp ej).1; omega) ej
theorem RI.more {rows : List Th} {b i x : Nat} {fs fr : List Nat} (h : RI rows b i fs) (ex : fs[i]? = some x) (nd : fr.Nodup) (hr : ∀ y, y ∈ fr ↔ y ∈ ((nxs rows)[x]?).getD [] ∧ y ∉ fs) : RI rows b (i + 1) (fs ++ fr) where
  nd := List.nodup_append.mpr ⟨h.nd, nd, fun a ma c mc e => by
    subst e
    exact ((hr a).mp mc).2 ma⟩
  mb := List.mem_append_left _ h.mb
  snd := fun y m => by
    rcases List.mem_append.mp m with m | m
    · exact h.snd y m
    · exact .step (h.snd x (List.mem_of_getElem? ex)) ((hr y).mp m).1
  clo := fun j y hj ej t mt => by
    have hi := (List.getElem?_eq_some_iff.mp ex).1
    rw [List.getElem?_append_left (by omega)] at ej
    by_cases e : j = i
    · subst e
      rw [ex] at ej
      cases ej
      by_cases hm : t ∈ fs
      · exact List.mem_append_left _ hm
      · exact List.mem_append_right _ ((hr t).mpr ⟨mt, hm⟩)
    · exact List.mem_append_left _ (h.clo j y (by omega) ej t mt)
section
variable {P : Program} {w : World} {K : PySem.W.Frag} {mg : Str → Option Value} {base : Heap} {k : Nat}
theorem filt_all (n : Nat) : (List.range n).filter (fun _ => true) = List.range n := List.filter_eq_self.mpr fun _ _ => rfl
end
end KL
end
section
set_option maxHeartbeats 1000000
namespace KL
open PySem PySem.Spec PyProof.Rows L2
def spKept : Sp := fun vs H Q _ => ∃ (Z : Zone) (st : Th) (v : V) (sd : Addr) (ks : List Nat) (n : Int), vs = [v, .ref sd] ∧ At Z H st v ∧ StepIs n st ∧ H sd = some (.lst (ks.map nV)) ∧ ∀ v' H', Same H H' → At (Trk H) H' (renS ks st) v' → Q v' H'
def spLTrim : Sp := fun vs H Q _ => ∃ (Z : Zone) (u : V) (z : Int) (rows : List Th), vs = [u] ∧ At Z H (.tup [.int z, .tup rows]) u ∧ MOk z rows ∧ ∀ v H', Same H H' → At (Trk H) H' (trimT z rows) v → Q v H'
/-- two rising lists of the same numbers -/
theorem rise_eq : ∀ {xs ys : List Nat}, xs.Pairwise (· < ·) → ys.Pairwise (· < ·) → (∀ x, x ∈ xs ↔ x ∈ ys) → xs = ys
  | [], [], _, _, _ => rfl
  | [], y :: ys, _, _, h => absurd ((h y).mpr List.mem_cons_self) (by simp)
  | x :: xs, [], _, _, h => absurd ((h x).mp List.mem_cons_self) (by simp)
  | x :: xs, y :: ys, hx, hy, h => by
    rw [List.pairwise_cons] at hx hy
    have e : x = y := by
      have h1 := (h x).mp List.mem_cons_self
      have h2 := (h y).mpr List.mem_cons_self
      rcases List.mem_cons.mp h1 with h1 | h1
      · exact h1
      · rcases List.mem_cons.mp h2 with h2 | h2
        · exact h2.symm
        · have := hx.1 y h2
          have := hy.1 x h1
          omega
    subst e
    congr 1
    refine rise_eq hx.2 hy.2 fun z => ?_
    constructor
    · intro m
      rcases List.mem_cons.mp ((h z).mp (List.mem_cons_of_mem _ m)) with e | m'
      · subst e; exact absurd (hx.1 z m) (Nat.lt_irrefl _)
      · exact m'
    · intro m
      rcases List.mem_cons.mp ((h z).mpr (List.mem_cons_of_mem _ m)) with e | m'
      · subst e; exact absurd (hy.1 z m) (Nat.lt_irrefl _)
      · exact m'
theorem cast_nonneg : ∀ ns : List Int, (∀ x ∈ ns, 0 ≤ x) → (ns.map Int.toNat).map (fun n : Nat => (n : Int)) = ns
  | [], _ => rfl
  | x :: xs, h => by
    rw [List.map_cons, List.map_cons, cast_nonneg xs (fun y m => h y (List.mem_cons_of_mem _ m))]
    have := h x List.mem_cons_self
    rw [show ((x.toNat : Nat) : Int) = x by omega]
theorem keep_rise (rows : List Th) : (keep rows).Pairwise (· < ·) := List.Pairwise.filter _ List.pairwise_lt_range
theorem lt_of_le_nd : ∀ {xs : List Nat}, xs.Pairwise (· ≤ ·) → xs.Nodup → xs.Pairwise (· < ·)
  | [], _, _ => .nil
  | x :: xs, h, n => by
    rw [List.pairwise_cons] at h
    have n' := List.nodup_cons.mp n
    exact List.pairwise_cons.mpr ⟨fun y m => Nat.lt_of_le_of_ne (h.1 y m) (fun e => n'.1 (by rw [e]; exact m)), lt_of_le_nd h.2 n'.2⟩
theorem sorted_keep {rows : List Th} {fs ss : List Nat} (hm : ∀ x, x ∈ fs ↔ Rc rows 0 x) (lt : ∀ x ∈ fs, x < rows.length) (nd : fs.Nodup) (pm : ss.Perm fs) (so : ss.Pairwise (· ≤ ·)) : ss.filter (lvEB rows) = keep rows := by
  refine rise_eq (List.Pairwise.filter _ (lt_of_le_nd so (pm.nodup_iff.mpr nd))) (keep_rise rows) fun x => ?_
  rw [List.mem_filter, mem_keep, pm.mem_iff, hm, lvEB_iff]
  exact ⟨fun h => ⟨lt x ((hm x).mpr h.1), h⟩, fun h => h.2⟩
theorem filt_get (p : Nat → Bool) : ∀ xs : List Nat, ((List.range xs.length).filter (fun j => p ((xs[j]?).getD 0))).map (fun j => nV ((xs[j]?).getD 0)) = (xs.filter p).map nV := by
  intro xs
  have hx : (List.range xs.length).map (fun j => (xs[j]?).getD 0) = xs := by
    have := range_map_get (fun x : Nat => x) 0 xs
    rwa [List.map_id'] at this
  have e : xs.filter p = ((List.range xs.length).filter (fun j => p ((xs[j]?).getD 0))).map (fun j => (xs[j]?).getD 0) := by
    conv => lhs; rw [← hx]
    exact List.filter_map
  rw [e, List.map_map]
  rfl
section
variable {P : Program} {w : World} {K : PySem.W.Frag} {mg : Str → Option Value} {base : Heap} {k : Nat}
end
end KL
end
section
set_option maxHeartbeats 1000000
namespace KL
open PySem PySem.Spec PyProof.Rows L2
abbrev sc_sharesN : List Str := ["row", "states", "end", "steps", "found", "step", "more", "state"]
abbrev s_shares : Stmt := topS 30
theorem sc_shares : FnScope ["row", "states", "end", "steps", "found", "step", "more", "state"] ["row", "states"] (defScope s_shares) := ⟨rfl, rfl, rfl, by decide +kernel, rfl, by decide +kernel, by decide +kernel⟩
abbrev sc_equationN : List Str := ["rows", "state", "found", "left", "share"]
abbrev s_equation : Stmt := topS 31
theorem sc_equation : FnScope ["rows", "state", "found", "left", "share"] ["rows", "state"] (defScope s_equation) := ⟨rfl, rfl, rfl, by decide +kernel, rfl, by decide +kernel, by decide +kernel⟩
abbrev sc_lowestN : List Str := ["top", "bottom", "common"]
abbrev s_lowest : Stmt := topS 29
theorem sc_lowest : FnScope ["top", "bottom", "common"] ["top", "bottom"] (defScope s_lowest) := ⟨rfl, rfl, rfl, by decide +kernel, rfl, by decide +kernel, by decide +kernel⟩
structure Gs (mg : Str → Option Value) : Prop where
  gcd : mg "gcd" = some (.builtin "math.gcd")
  zip : mg "zip" = none
structure Glcm (mg : Str → Option Value) : Prop extends Gs mg where
  lcm : mg "lcm" = some (.builtin "math.lcm")
section
variable {X : Cx}
theorem get_list : PGet X (rIxL X.K) := by
  intro pins s σ H x y v u Q I rx ry h
  obtain ⟨p, xs, i, z, rfl, rfl, hq, he, q⟩ := h
  cases rx
  obtain ⟨t, rfl⟩ := ry
  obtain ⟨its, r, pl, hz⟩ := I.list hq
  obtain ⟨j, h1, h2, h3, h4, h5⟩ := atI_get he
  obtain ⟨w, ew, rw'⟩ := r.get h2
  have hl := r.length
  have hn := line63
  have fin : EP X pins σ Q w s := ⟨z, H, I, rw', q⟩
  by_cases h0 : 0 ≤ i
  · have hj : i.toNat = j := by
      rw [seqIndex_of h0 h5] at h1
      exact Option.some.inj h1
    exact PySem.wpAny_getItem_list pl.isList h0 (by omega) (by rw [hj]; simpa using ew) fin
  · have hj : (i + (its.toArray.size : Int)).toNat = j := by
      rw [seqIndex_neg (by omega) h4] at h1
      rw [List.size_toArray, ← hl]
      exact Option.some.inj h1
    exact PySem.wpAny_getItem_list_neg pl.isList (by omega) (by rw [List.size_toArray] <;> omega) (by omega) (by rw [hj]; simpa using ew) fin
end
/-- what a step counts for the state j, of 2 ** 60 -/
def shT (j : Nat) : Th → Int
  | .tup [.int m, .int s] => if s = (j : Int) then 2 ^ (60 - m).toNat else 0
  | _ => 0
def shS (ss : List Th) (j : Nat) : Int := (ss.map (shT j)).sum
def shE : Th → Int
  | .int e => 2 ^ (60 - e).toNat
  | _ => 0
def shL (ss : List Th) (n : Nat) (a : Int) : List V := ((List.range n).map fun j => V.int (shS ss j)) ++ [V.int a]
theorem shL_len (ss : List Th) (n : Nat) (a : Int) : (shL ss n a).length = n + 1 := by unfold shL; rw [List.length_append, List.length_map, List.length_range]; rfl
theorem shL_get {ss : List Th} {n j : Nat} {a : Int} (h : j < n) : (shL ss n a)[j]? = some (.int (shS ss j)) := by
  unfold shL
  rw [List.getElem?_append_left (by rw [List.length_map, List.length_range]; exact h), List.getElem?_map, List.getElem?_range h]; rfl
theorem shL_last {ss : List Th} {n : Nat} {a : Int} : (shL ss n a)[n]? = some (.int a) := by
  unfold shL
  rw [List.getElem?_append_right (by rw [List.length_map, List.length_range]; exact Nat.le_refl _), List.length_map, List.length_range, Nat.sub_self]; rfl
theorem shL_ext {ss : List Th} {n : Nat} {a : Int} {xs : List V} (hl : xs.length = n + 1) (h : ∀ j, j < n → xs[j]? = some (.int (shS ss j))) (hn : xs[n]? = some (.int a)) : xs = shL ss n a := by
  refine List.ext_getElem? fun i => ?_
  by_cases h1 : i < n
  · rw [h i h1, shL_get h1]
  · by_cases h2 : i = n
    · subst h2; rw [hn, shL_last]
    · rw [List.getElem?_eq_none (by omega), List.getElem?_eq_none (by rw [shL_len]; omega)]
theorem shS_snoc (ss : List Th) (st : Th) (j : Nat) : shS (ss ++ [st]) j = shS ss j + shT j st := by
  unfold shS
  rw [List.map_append, List.sum_append]
  show _ + (shT j st + 0) = _
  omega
def spShares : Sp := fun vs H Q _ => ∃ (Z : Zone) (r : Th) (v : V) (z : Int) (n : Nat), vs = [v, .int (n : Nat)] ∧ At Z H r v ∧ rowB z (n : Int) r = true ∧ z ≤ 8 ∧ n ≤ 30 ∧ ∀ N H', Same H H' → H N = none → H' N = some (.lst (shL (stepsOf r) n (shE (endOf r)))) → Q (.ref N) H'
section
variable {P : Program} {w : World} {K : PySem.W.Frag} {mg : Str → Option Value} {base : Heap} {k : Nat} {t1 t2 t3 : Tok}
theorem ok_shares (M : Ms mg t1 t2 t3) (d : Def K mg "shares" s_shares ["row", "states"]) : Cal P w K mg base CX0 (k + 1) "shares" ["row", "states"] spShares := by
  refine d.ok sc_shares (fun vs H Q E h => ?_) (fun f cdv A outer s H vs Q E hr h => ?_)
  · obtain ⟨_, _, _, _, _, rfl, _⟩ := h; rfl
  obtain ⟨Zn, r, v, z, n, rfl, h, hr2, z8, n30, q⟩ := h
  refine ⟨_, (pss_cons (ps_asg (pv 0) (pg_tup (by rfl) (pgs_cons (pg_name (i := 2) sc_shares.nd rfl (Or.inl rfl)) (pgs_cons (pg_name (i := 3) sc_shares.nd rfl (Or.inl rfl)) pgs_nil))))
      (pss_cons (ps_set (i := 4) sc_shares.nd rfl (Or.inl rfl) (pe_op op_rep (pe_lst (pa_cons pe_int pa_nil)) (pe_op op_add (pv 1) pe_int)))
      (pss_cons (ps_for PassesOwn.never rfl (pi_tup (pv 3)) (pg_name (i := 5) sc_shares.nd rfl (Or.inl rfl)) (pss_one (ps_if (pt_cmpR op_notN (pv 5) pe_non (nomark _)) (pss_cons (ps_asg (pv 5) (pg_tup (by rfl) (pgs_cons (pg_name (i := 6) sc_shares.nd rfl (Or.inl rfl)) (pgs_cons (pg_name (i := 7) sc_shares.nd rfl (Or.inl rfl)) pgs_nil))))
      (pss_one (ps_augS (pv 4) (pv 7) get_list (pe_op op_shl pe_int (pe_op op_sub (pe_glob (v := .int 60) (by rfl) M.MOST_BITS ⟨_, rfl⟩) (pv 6))) ip_add set_list))) pss_nil)))
      (pss_cons (ps_if (pt_cmpR op_notN (pv 2) pe_non (nomark _)) (pss_one (ps_asg (pe_op op_shl pe_int (pe_op op_sub (pe_glob (v := .int 60) (by rfl) M.MOST_BITS ⟨_, rfl⟩) (pv 2))) (pg_sub (pv 4) (pv 1) set_list))) pss_nil)
      (pss_one (ps_ret (pv 4))))))), ?_⟩
  obtain ⟨e, ss, rfl, h1, h2, h3⟩ := rowB_is hr2
  obtain ⟨p, ve, w', rfl, ep, b1, b2⟩ := h.pair
  obtain ⟨ps, us, rfl, _, eps, as'⟩ := b2
  have ls := as'.len
  refine ⟨_, rfl, p, _, rfl, .of ep, rfl, _, _, rfl, _, _, rfl, rfl, ?_⟩
  refine ⟨(by show 1 ≤ sizeLine; decide), fun O nO => ?_⟩
  have yO := same_new nO (.lst [V.int 0])
  refine ⟨_, rfl, _, _, rfl, rfl, O, _, _, rfl, rfl, upd_same, by omega, by omega, by rw [sizeLine_eq]; show 1 * _ ≤ _; omega, fun F nF => ?_⟩
  have e0 : (List.replicate ((n : Int) + 1).toNat [V.int 0]).flatten = shL [] n 0 := by
    have := repV_single ((n : Int) + 1) (V.int 0)
    unfold repV at this
    rw [this]
    refine shL_ext (by rw [List.length_replicate]; omega) (fun j hj => ?_) ?_
    · rw [List.getElem?_replicate, if_pos (by omega)]; rfl
    · rw [List.getElem?_replicate, if_pos (by omega)]
  rw [e0]
  have yF := same_new nF (.lst (shL [] n 0))
  have sF := yO.trans yF
  have nFH : H F = none := Same.free yO nF
  refine ⟨_, rfl, ps, rfl, ⟨_, .of (sF _ _ eps)⟩, ?_⟩
  refine for_tup (xs := us) (fun i σ' H' => Same H H' ∧ ∃ y5 y6 y7 : Option V, σ' = [some (.ref p), some (.int (n : Nat)), some ve, some (.ref ps), some (.ref F), y5, y6, y7] ∧ H' F = some (.lst (shL (ss.take i) n 0))) ⟨sF, none, none, none, rfl, upd_same⟩ (fun i σ' H' _ hh => .of (hh.1 _ _ eps)) (fun i x σ' H' ex hh => ?_) (fun σ' H' hh => ?_)
  · obtain ⟨s', y5, y6, y7, rfl, eF⟩ := hh
    have tk : ∀ {st : Th}, ss[i]? = some st → ss.take (i + 1) = ss.take i ++ [st] := fun h => by rw [List.take_add_one, h]; rfl
    rcases st_get (as'.same s') h3 ex with ⟨f1, rfl⟩ | ⟨q2, m, s2, f1, rfl, f2, _, m0, m1, s0, s1⟩
    · refine ⟨_, rfl, rfl, _, rfl, iteF ⟨s', _, _, _, rfl, ?_⟩⟩
      rw [eF, tk f1]
      congr 2
      refine shL_ext (shL_len _ _ _) (fun j hj => ?_) shL_last
      rw [shL_get hj, shS_snoc]
      show some (V.int (shS _ j)) = some (V.int (shS _ j + 0))
      rw [Int.add_zero]
    · refine ⟨_, rfl, rfl, _, rfl, iteT ?_⟩
      obtain ⟨j0, rfl⟩ : ∃ j0 : Nat, s2 = (j0 : Int) := ⟨s2.toNat, by omega⟩
      have hj0 : j0 < n := by omega
      refine ⟨_, rfl, q2, _, rfl, .of f2, rfl, _, _, rfl, _, _, rfl, rfl, ?_⟩
      refine ⟨_, rfl, _, rfl, F, _, _, _, rfl, rfl, .inl (.of eF), atI_nat (shL_get hj0), _, rfl, _, _, rfl, rfl, _, _, rfl, rfl, ⟨by omega, by omega, by decide⟩, _, _, rfl, rfl, F, _, _, j0, rfl, rfl, eF, ixT (by rw [shL_len]; omega), ?_⟩
      refine ⟨Same.upd_new s' nFH _, _, _, _, rfl, ?_⟩
      rw [upd_same, tk f1]
      congr 2
      refine shL_ext (by rw [List.length_set, shL_len]) (fun j hj => ?_) ?_
      · by_cases e1 : j = j0
        · subst e1
          rw [List.getElem?_set_self (by rw [shL_len]; omega), shS_snoc]
          show some (V.int (shS _ j + 1 * 2 ^ (60 - m).toNat)) = some (V.int (shS _ j + if (j : Int) = (j : Int) then 2 ^ (60 - m).toNat else 0))
          rw [if_pos rfl, Int.one_mul]
        · rw [List.getElem?_set_ne (fun h => e1 h.symm), shL_get hj, shS_snoc]
          show some (V.int (shS _ j)) = some (V.int (shS _ j + if (j0 : Int) = (j : Int) then 2 ^ (60 - m).toNat else 0))
          rw [if_neg (by omega), Int.add_zero]
      · rw [List.getElem?_set_ne (by omega), shL_last]
  · obtain ⟨s', y5, y6, y7, rfl, eF⟩ := hh
    rw [ls, List.take_length] at eF
    rcases h1 with rfl | ⟨i0, rfl, i1, i60⟩
    · cases (show ve = .non from b1)
      refine ⟨_, rfl, rfl, _, rfl, iteF ⟨_, rfl, q F H' s' nFH eF⟩⟩
    · cases (show ve = .int i0 from b1)
      refine ⟨_, rfl, rfl, _, rfl, iteT ?_⟩
      refine ⟨_, rfl, _, _, rfl, rfl, _, _, rfl, rfl, ⟨by omega, by omega, by decide⟩, _, rfl, _, rfl, F, _, _, n, rfl, rfl, eF, ixT (by rw [shL_len]; omega), ?_⟩
      refine ⟨_, rfl, q F _ (Same.upd_new s' nFH _) nFH ?_⟩
      rw [upd_same]
      congr 2
      refine shL_ext (by rw [List.length_set, shL_len]) (fun j hj => ?_) ?_
      · rw [List.getElem?_set_ne (by omega), shL_get hj]; rfl
      · rw [List.getElem?_set_self (by rw [shL_len]; omega)]
        show some (V.int (1 * 2 ^ (60 - i0).toNat)) = some (V.int (2 ^ (60 - i0).toNat))
        rw [Int.one_mul]
end
end KL
end
section
set_option maxHeartbeats 1000000
namespace KL
open PySem PySem.Spec PyProof.Rows L2
abbrev sc_clearedN : List Str := ["row", "chosen", "at", "last", "here", "there"]
abbrev s_cleared : Stmt := topS 33
theorem sc_cleared : FnScope ["row", "chosen", "at", "last", "here", "there"] ["row", "chosen", "at", "last"] (defScope s_cleared) := ⟨rfl, rfl, rfl, by decide +kernel, rfl, by decide +kernel, by decide +kernel⟩
/-- a row of integers -/
def rowV (f : Nat → Int) (n : Nat) : List V := (List.range n).map fun j => V.int (f j)
theorem rowV_len (f : Nat → Int) (n : Nat) : (rowV f n).length = n := by unfold rowV; rw [List.length_map, List.length_range]
theorem rowV_get {f : Nat → Int} {n j : Nat} (h : j < n) : (rowV f n)[j]? = some (.int (f j)) := by unfold rowV; rw [List.getElem?_map, List.getElem?_range h]; rfl
theorem rowV_of {f : Nat → Int} {n j : Nat} {v : V} (h : (rowV f n)[j]? = some v) : j < n ∧ v = .int (f j) := by
  have hj : j < n := by have := (List.getElem?_eq_some_iff.mp h).1; rwa [rowV_len] at this
  rw [rowV_get hj] at h
  exact ⟨hj, (Option.some.inj h).symm⟩
theorem rowV_congr {f g : Nat → Int} {n : Nat} (h : ∀ j, j < n → f j = g j) : rowV f n = rowV g n := by
  unfold rowV
  exact List.map_congr_left fun j m => by rw [h j (List.mem_range.mp m)]
theorem rowV_succ (f : Nat → Int) (n : Nat) : rowV f (n + 1) = rowV f n ++ [.int (f n)] := by unfold rowV; rw [List.range_succ, List.map_append]; rfl
theorem rowV_ext {f : Nat → Int} {n : Nat} {xs : List V} (hl : xs.length = n) (h : ∀ j, j < n → xs[j]? = some (.int (f j))) : xs = rowV f n := by
  refine List.ext_getElem? fun i => ?_
  by_cases h1 : i < n
  · rw [h i h1, rowV_get h1]
  · rw [List.getElem?_eq_none (by omega), List.getElem?_eq_none (by rw [rowV_len]; omega)]
/-- the equations' table: the unknowns' columns, the right side, and behind it each equation's own column -/
def eqr (rows : List Th) (i j : Nat) : Int :=
  if j < rows.length then (if j = i then 2 ^ 60 else 0) - shS (stepsOf ((rows[i]?).getD .non)) j
  else if j = rows.length then shE (endOf ((rows[i]?).getD .non)) else if j = rows.length + 1 + i then 1 else 0
theorem cutV_init (xs : List V) : cutV xs none (some (-1)) = xs.take (xs.length - 1) := by
  unfold cutV
  rw [show HT.sIx xs.length 0 none = 0 from rfl, List.drop_zero, show HT.sIx xs.length xs.length (some (-1)) = ((-1 : Int) + (xs.length : Int)).toNat from rfl]
  congr 1
  omega
def spEqn : Sp := fun vs H Q _ => ∃ (Z : Zone) (pr : Addr) (us : List V) (z : Int) (rows : List Th) (i : Nat), vs = [.ref pr, .int (i : Nat)] ∧ H pr = some (.tup us) ∧ AtAll Z H rows us ∧ MOk z rows ∧ i < rows.length ∧ ∀ N H', Same H H' → H N = none → H' N = some (.lst (rowV (eqr rows i) (rows.length + 1))) → Q (.ref N) H'
def lowT (a b : Int) : Int := a / ((Nat.gcd a.natAbs b.natAbs : Nat) : Int)
def spLowest : Sp := fun vs H Q _ => ∃ (a b : Int), vs = [.int a, .int b] ∧ 0 < b ∧ b.natAbs < 2 ^ 4000 ∧ ∀ p H', Same H H' → H p = none → H' p = some (.tup [.int (lowT a b), .int (b / ((Nat.gcd a.natAbs b.natAbs : Nat) : Int))]) → Q (.ref p) H'
def spCleared : Sp := fun vs H Q _ => ∃ (a b : Addr) (f g : Nat → Int) (n c : Nat) (l : Int), vs = [.ref a, .ref b, .int (c : Nat), .int l] ∧ H a = some (.lst (rowV f n)) ∧ H b = some (.lst (rowV g n)) ∧ n ≤ 100 ∧ c < n ∧ 0 < l ∧ l.natAbs < 2 ^ 4000 ∧ (∀ j, j < n → (f j).natAbs < 2 ^ 4000) ∧ (∀ j, j < n → (g j).natAbs < 2 ^ 4000) ∧
  ∀ N H', Same H H' → H N = none → H' N = some (.lst (rowV (fun j => (g c * f j - f c * g j) / l) n)) → Q (.ref N) H'
section
variable {P : Program} {w : World} {K : PySem.W.Frag} {mg : Str → Option Value} {base : Heap} {k : Nat} {t1 t2 t3 : Tok}
theorem ok_lowest (G : Gs mg) (d : Def K mg "lowest" s_lowest ["top", "bottom"]) : Cal P w K mg base CX0 (k + 1) "lowest" ["top", "bottom"] spLowest := by
  refine d.ok sc_lowest (fun vs H Q E h => ?_) (fun f cdv A outer s H vs Q E hr h => ?_)
  · obtain ⟨_, _, rfl, _⟩ := h; rfl
  obtain ⟨a, b, rfl, b0, bb, q⟩ := h
  refine ⟨_, (pss_cons (ps_set (i := 2) sc_lowest.nd rfl (Or.inl rfl) (pe_callMB (id := "math.gcd") cr_gcd (by rfl) G.gcd (pa_cons (pv 0) (pa_cons (pv 1) pa_nil))))
      (pss_one (ps_ret (pe_tup (pa_cons (pe_op op_fdivW (pv 0) (pv 2)) (pa_cons (pe_op op_fdivW (pv 1) (pv 2)) pa_nil)))))), ?_⟩
  have g0 : 0 < Nat.gcd a.natAbs b.natAbs := Nat.gcd_pos_of_pos_right _ (by omega)
  have g1 : Nat.gcd a.natAbs b.natAbs ≤ b.natAbs := Nat.gcd_le_right _ (by omega)
  have cd : ∀ i, CDivW i ((Nat.gcd a.natAbs b.natAbs : Nat) : Int) := fun i => wide_div (by omega) (b := 4000) (by rw [Int.natAbs_natCast]; omega) (by decide) (by decide)
  refine ⟨_, rfl, _, rfl, _, _, rfl, ?_⟩
  refine ⟨_, rfl, _, rfl, _, _, rfl, rfl, cd _, _, rfl, _, rfl, _, _, rfl, rfl, cd _, (by show 2 ≤ sizeLine; decide), fun p hp => ?_⟩
  exact q p _ (same_new hp _) hp upd_same
theorem ok_cleared (G : Gs mg) (d : Def K mg "cleared" s_cleared ["row", "chosen", "at", "last"]) : Cal P w K mg base CX0 (k + 1) "cleared" ["row", "chosen", "at", "last"] spCleared := by
  refine d.ok sc_cleared (fun vs H Q E h => ?_) (fun fa cdv A outer s H vs Q E hr h => ?_)
  · obtain ⟨_, _, _, _, _, _, _, rfl, _⟩ := h; rfl
  obtain ⟨a, b, f, g, n, c, l, rfl, ea, eb, n100, hc, l0, lb, fb, gb, q⟩ := h
  refine ⟨_, (pss_one (ps_ret (pe_lc (own := [("here", 4), ("there", 5)]) (g := (gTup K 2 (gCons (gName 4) (gCons (gName 5) gNil)))) (tt := tYes) rfl sc_cleared.nd (pi_zip (by rfl) G.zip (pa_cons (pv 0) (pa_cons (pv 1) pa_nil))) (blkOk_by (N := ["row", "chosen", "at", "last", "here", "there"]) (sc := defScope s_cleared) (by decide +kernel)) (fun _ _ _ _ _ => (pg_tup (by rfl) (pgs_cons (pg_name (i := 4) sc_cleared.nd rfl (Or.inl rfl)) (pgs_cons (pg_name (i := 5) sc_cleared.nd rfl (Or.inl rfl)) pgs_nil)))) (fun _ _ _ _ _ => pts_nil) (fun _ _ _ _ _ => (pe_op op_fdivW (pe_op op_sub (pe_op op_mulW (pe_ix (r := rIxL K) ix_list (pv 1) (pv 2) (fun _ _ => rfl)) (pv 4)) (pe_op op_mulW (pe_ix (r := rIxL K) ix_list (pv 0) (pv 2) (fun _ _ => rfl)) (pv 5))) (pv 3)))))), ?_⟩
  refine ⟨_, rfl, _, rfl, a, b, _, _, rfl, .inl (.of ea), .inl (.of eb), fun D hD => lc_it (walk_zip (n := n) (by rw [rowV_len, rowV_len]; omega)) (fun j G => Same H G ∧ G D = some (.lst (rowV (fun j => (g c * f j - f c * g j) / l) j))) ⟨same_new hD _, upd_same⟩ (fun j G _ p2 => ⟨.inl (.of (p2.1 _ _ ea)), .inl (.of (p2.1 _ _ eb))⟩) (fun j x G G' hj p2 y => ?_) (fun G p2 => q D G p2.1 hD p2.2)⟩
  obtain ⟨sG, eD⟩ := p2
  obtain ⟨T, k1, k2, rfl, nT, rfl, g1, g2⟩ := y
  obtain ⟨_, rfl⟩ := rowV_of g1
  obtain ⟨_, rfl⟩ := rowV_of g2
  have yT := same_new nT (.tup [V.int (f j), V.int (g j)])
  have sT := sG.trans yT
  have eD' := yT _ _ eD
  have wm : ∀ {x y : Int}, x.natAbs < 2 ^ 4000 → y.natAbs < 2 ^ 4000 → CMulW x y := fun h1 h2 => wide_mul h1 h2 (by decide) (by decide) (by decide)
  refine ⟨T, _, rfl, .of upd_same, rfl, _, _, rfl, _, _, rfl, rfl, rfl, ?_⟩
  refine ⟨_, rfl, _, rfl, b, _, _, _, rfl, rfl, .inl (.of (sT _ _ eb)), atI_nat (rowV_get hc), _, rfl, _, _, rfl, rfl, wm (gb c hc) (fb j hj), _, rfl, _, rfl, a, _, _, _, rfl, rfl, .inl (.of (sT _ _ ea)), atI_nat (rowV_get hc), _, rfl, _, _, rfl, rfl, wm (fb c hc) (gb j hj), _, _, rfl, rfl, _, rfl, _, _, rfl, rfl, wide_div l0 lb (by decide) (by decide), ?_⟩
  refine ⟨_, eD', by rw [rowV_len, sizeLine_eq]; omega, Same.upd_new sT hD _, ?_⟩
  rw [upd_same, rowV_succ]
end
end KL
end
section
set_option maxHeartbeats 1000000
namespace KL
open PySem PySem.Spec PyProof.Rows L2
section
variable {P : Program} {w : World} {K : PySem.W.Frag} {mg : Str → Option Value} {base : Heap} {k : Nat} {t1 t2 t3 : Tok}
theorem ok_equation (Z : Zs mg) (M : Ms mg t1 t2 t3) (c_shares : Cal P w K mg base CX0 k "shares" ["row", "states"] spShares) (d : Def K mg "equation" s_equation ["rows", "state"]) : Cal P w K mg base CX0 (k + 1) "equation" ["rows", "state"] spEqn := by
  refine d.ok sc_equation (fun vs H Q E h => ?_) (fun f cdv A outer s H vs Q E hr h => ?_)
  · obtain ⟨_, _, _, _, _, _, rfl, _⟩ := h; rfl
  obtain ⟨Zn, pr, us, z, rows, i, rfl, epr, ar, ok, hi, q⟩ := h
  refine ⟨_, (pss_cons (ps_set (i := 2) sc_equation.nd rfl (Or.inl rfl) (pe_cal c_shares hr (by rfl) (pa_cons (pe_ix ix_tup (pv 0) (pv 1) (fun _ _ => rfl)) (pa_cons (pe_callB (id := "len") call_len_seq (by rfl) Z.len (by decide +kernel) (pa_cons (pv 0) pa_nil)) pa_nil))))
      (pss_cons (ps_setLc (i := 3) (own := [("share", 4)]) (g := gName 4) (tt := tYes) rfl sc_equation.nd rfl rfl (sw_true rfl rfl rfl (by decide +kernel)) (pi_list (pe_slice sl_list (pv 2) po_none (po_some (pe_un un_neg pe_int)))) (blkOk_by (N := ["rows", "state", "found", "left", "share"]) (sc := defScope s_equation) (by decide +kernel)) (fun _ _ _ _ _ => (pg_name (i := 4) sc_equation.nd rfl (Or.inl rfl))) (fun _ _ _ _ _ => pts_nil) (fun _ _ _ _ _ => (pe_un un_neg (pv 4))))
      (pss_cons (ps_augS (pv 3) (pv 1) get_list (pe_op op_shl pe_int (pe_glob (v := .int 60) (by rfl) M.MOST_BITS ⟨_, rfl⟩)) ip_add set_list)
      (pss_one (ps_ret (pe_op op_cat (pv 3) (pe_lst (pa_cons (pe_ix ix_list (pv 2) (pe_un un_neg pe_int) (fun _ _ => rfl)) pa_nil)))))))), ?_⟩
  have n30 := ok.n30
  have lu := ar.len
  have er := List.getElem?_eq_getElem hi
  obtain ⟨v, ev, hv⟩ := ar.at er
  have rb := ok.r rows[i] (List.getElem_mem hi)
  have eD : (rows[i]?).getD .non = rows[i] := by rw [er]; rfl
  generalize rows[i] = r at *
  generalize hn : rows.length = n at *
  refine ⟨_, rfl, _, rfl, pr, us, _, v, rfl, rfl, .of epr, atI_nat ev, _, rfl, pr, us, rfl, .inr (.of epr), Zn, r, v, z, n, (by rw [lu]; rfl), hv, rb, ok.z8, n30, fun N H1 s1 nN eN => ?_⟩
  generalize hss : stepsOf r = ss at *
  generalize hee : shE (endOf r) = e at *
  refine ⟨_, rfl, 1, rfl, _, rfl, N, _, rfl, .of eN, fun C nC => ?_⟩
  rw [show (-1 : Int) = -1 from rfl, cutV_init, shL_len, Nat.add_sub_cancel]
  have yC := same_new nC (.lst ((shL ss n e).take n))
  have eN1 := yC _ _ eN
  have s2 := s1.trans yC
  have eC : (upd H1 C (.lst ((shL ss n e).take n))) C = some (.lst ((shL ss n e).take n)) := upd_same
  generalize upd H1 C (.lst ((shL ss n e).take n)) = H2 at *
  have lt : ((shL ss n e).take n).length = n := by rw [List.length_take, shL_len]; omega
  refine ⟨C, rfl, ⟨_, .of eC⟩, ?_⟩
  refine lc_valW (f := fun j => V.int (- shS ss j)) (p := fun _ => true) walk_list (fun _ _ _ _ h => h) (fun H' s' => .of (s' _ _ eC)) (by omega) (fun _ => rfl) (fun j x G hj ex sG R hR => hR G (Same.refl G)) (fun j x G hj ex hp sG R hR => ?_) (fun L H3 s3 nL eL => ?_)
  · rw [lt] at hj
    have ex' : ((shL ss n e).take n)[j]? = some x := ex
    rw [List.getElem?_take, if_pos hj, shL_get hj] at ex'
    cases ex'
    exact ⟨_, rfl, _, rfl, hR G (Same.refl G)⟩
  rw [filt_all, lt] at eL
  have eL' : H3 L = some (.lst (rowV (fun j => - shS ss j) n)) := eL
  have s03 := s2.trans s3
  have nLH : H L = none := Same.free s2 nL
  refine ⟨_, rfl, _, rfl, L, _, _, _, rfl, rfl, .inl (.of eL'), atI_nat (rowV_get hi), _, _, rfl, rfl, ⟨by decide, by decide, by decide⟩, _, _, rfl, rfl, L, _, _, i, rfl, rfl, eL', ixT (by rw [rowV_len]; omega), ?_⟩
  have s04 := Same.upd_new s03 nLH (.lst ((rowV (fun j => - shS ss j) n).set i (.int (-shS ss i + 1 * 2 ^ (60 : Int).toNat))))
  have eN4 : (upd H3 L (.lst ((rowV (fun j => - shS ss j) n).set i (.int (-shS ss i + 1 * 2 ^ (60 : Int).toNat))))) N = some (.lst (shL ss n e)) := by
    rw [upd_ne (fun h => by rw [h] at eN1; rw [nL] at eN1; cases eN1)]
    exact s3 _ _ eN1
  have eL4 : (upd H3 L (.lst ((rowV (fun j => - shS ss j) n).set i (.int (-shS ss i + 1 * 2 ^ (60 : Int).toNat))))) L = some (.lst ((rowV (fun j => - shS ss j) n).set i (.int (-shS ss i + 1 * 2 ^ (60 : Int).toNat)))) := upd_same
  generalize upd H3 L (.lst ((rowV (fun j => - shS ss j) n).set i (.int (-shS ss i + 1 * 2 ^ (60 : Int).toNat)))) = H4 at *
  have hl : atI (shL ss n e) (-1) = some (.int e) := by unfold shL; exact atI_last _ _
  refine ⟨_, rfl, _, rfl, 1, rfl, N, _, _, _, rfl, rfl, .inl (.of eN4), hl, (by show 1 ≤ sizeLine; decide), fun B nB => ?_⟩
  have yB := same_new nB (.lst [V.int e])
  refine ⟨L, B, _, _, rfl, rfl, yB _ _ eL4, upd_same, by rw [List.length_set, rowV_len, sizeLine_eq]; show n + 1 ≤ _; omega, fun R nR => ?_⟩
  have yR := same_new nR (.lst ((rowV (fun j => - shS ss j) n).set i (.int (-shS ss i + 1 * 2 ^ (60 : Int).toNat)) ++ [V.int e]))
  refine q R _ (s04.trans (yB.trans yR)) (Same.free (s04.trans yB) nR) ?_
  rw [upd_same]
  congr 2
  refine rowV_ext (by rw [List.length_append, List.length_set, rowV_len]; rfl) fun j hj => ?_
  by_cases h1 : j < n
  · rw [List.getElem?_append_left (by rw [List.length_set, rowV_len]; exact h1)]
    unfold eqr
    rw [hn, if_pos h1, eD, hss]
    by_cases h2 : j = i
    · subst h2
      rw [List.getElem?_set_self (by rw [rowV_len]; exact h1), if_pos rfl]
      congr 2
      rw [show (60 : Int).toNat = 60 from rfl]
      omega
    · rw [List.getElem?_set_ne (fun h => h2 h.symm), rowV_get h1, if_neg h2]
      congr 2
      omega
  · have : j = n := by omega
    subst this
    rw [List.getElem?_append_right (by rw [List.length_set, rowV_len]; exact Nat.le_refl _), List.length_set, rowV_len, Nat.sub_self]
    unfold eqr
    rw [hn, if_neg h1, if_pos rfl, eD, hee]
    rfl
end
end KL
end
section
namespace KL
/-! ### determinants by rows, and elimination within integers -/
def sumN : Nat → (Nat → Int) → Int
  | 0, _ => 0
  | n + 1, f => sumN n f + f n
theorem sumN_congr {f g : Nat → Int} : ∀ {n : Nat}, (∀ i, i < n → f i = g i) → sumN n f = sumN n g
  | 0, _ => rfl
  | n + 1, h => by rw [sumN, sumN, sumN_congr (fun i hi => h i (by omega)), h n (by omega)]
theorem sumN_zero {f : Nat → Int} : ∀ {n : Nat}, (∀ i, i < n → f i = 0) → sumN n f = 0
  | 0, _ => rfl
  | n + 1, h => by rw [sumN, sumN_zero (fun i hi => h i (by omega)), h n (by omega)]; rfl
theorem sumN_add (f g : Nat → Int) : ∀ n, sumN n (fun i => f i + g i) = sumN n f + sumN n g
  | 0 => rfl
  | n + 1 => by rw [sumN, sumN, sumN, sumN_add f g n]; omega
theorem sumN_mul (c : Int) (f : Nat → Int) : ∀ n, sumN n (fun i => c * f i) = c * sumN n f
  | 0 => by rw [sumN, sumN, Int.mul_zero]
  | n + 1 => by rw [sumN, sumN, sumN_mul c f n, Int.mul_add]
theorem sumN_neg (f : Nat → Int) : ∀ n, sumN n (fun i => - f i) = - sumN n f
  | 0 => rfl
  | n + 1 => by rw [sumN, sumN, sumN_neg f n]; omega
theorem sumN_one {f : Nat → Int} {q : Nat} : ∀ {n : Nat}, q < n → (∀ i, i < n → i ≠ q → f i = 0) → sumN n f = f q
  | 0, h, _ => by omega
  | n + 1, h, z => by
    rw [sumN]
    by_cases e : q = n
    · subst e
      rw [sumN_zero (fun i hi => z i (by omega) (by omega))]; omega
    · rw [sumN_one (show q < n by omega) (fun i hi ne => z i (by omega) ne), z n (by omega) (by omega)]; omega
/-- two neighbours exchanged -/
def sw (a x : Nat) : Nat := if x = a then a + 1 else if x = a + 1 then a else x
def skip (p x : Nat) : Nat := if x < p then x else x + 1
theorem sumN_sw (g : Nat → Int) (a : Nat) : ∀ n, a + 1 < n → sumN n (fun p => g (sw a p)) = sumN n g
  | 0, h => by omega
  | n + 1, h => by
    by_cases e : a + 1 < n
    · rw [sumN, sumN, sumN_sw g a n e, show sw a n = n by unfold sw; rw [if_neg (by omega), if_neg (by omega)]]
    · have en : n = a + 1 := by omega
      subst en
      rw [sumN, sumN, sumN, sumN, sumN_congr (g := g) (fun i hi => by rw [show sw a i = i by unfold sw; rw [if_neg (by omega), if_neg (by omega)]])]
      rw [show sw a a = a + 1 by unfold sw; rw [if_pos rfl], show sw a (a + 1) = a by unfold sw; rw [if_neg (by omega), if_pos rfl]]
      omega
def sg (m : Nat) : Int := if m % 2 = 0 then 1 else -1
theorem sg_succ (m : Nat) : sg (m + 1) = - sg m := by
  unfold sg
  by_cases h : m % 2 = 0
  · rw [if_neg (by omega), if_pos h]
  · rw [if_pos (by omega), if_neg h]; rfl
/-- the determinant of the first n rows by so many columns, along the last row -/
def Dt (r : Nat → Nat → Int) : Nat → (Nat → Nat) → Int
  | 0, _ => 1
  | n + 1, cols => sumN (n + 1) fun p => sg (n + p) * r n (cols p) * Dt r n (fun x => cols (skip p x))
variable {r : Nat → Nat → Int}
theorem Dt_congr : ∀ {n : Nat} {c d : Nat → Nat}, (∀ x, x < n → c x = d x) → Dt r n c = Dt r n d
  | 0, _, _, _ => rfl
  | n + 1, c, d, h => by
    rw [Dt, Dt]
    refine sumN_congr fun p hp => ?_
    rw [h p hp, Dt_congr (fun x hx => h (skip p x) (by unfold skip; split <;> omega))]
theorem Dt_sw : ∀ {n : Nat} (a : Nat) (c : Nat → Nat), a + 1 < n → Dt r n (fun x => c (sw a x)) = - Dt r n c
  | 0, _, _, h => by omega
  | n + 1, a, c, h => by
    rw [Dt, Dt, ← sumN_neg, ← sumN_sw (fun i => -(sg (n + i) * r n (c i) * Dt r n fun x => c (skip i x))) a (n + 1) h]
    refine sumN_congr fun p hp => ?_
    by_cases e1 : p = a
    · subst e1
      rw [show sw p p = p + 1 by unfold sw; rw [if_pos rfl]]
      rw [show (fun x => c (sw p (skip p x))) = fun x => c (skip (p + 1) x) by
        funext x; unfold sw skip; congr 1; (repeat' split) <;> omega]
      rw [show n + (p + 1) = (n + p) + 1 by omega, sg_succ]
      grind
    · by_cases e2 : p = a + 1
      · subst e2
        rw [show sw a (a + 1) = a by unfold sw; rw [if_neg (by omega), if_pos rfl]]
        rw [show (fun x => c (sw a (skip (a + 1) x))) = fun x => c (skip a x) by
          funext x; unfold sw skip; congr 1; (repeat' split) <;> omega]
        rw [show n + (a + 1) = (n + a) + 1 by omega, sg_succ]
        grind
      · rw [show sw a p = p by unfold sw; rw [if_neg e1, if_neg e2]]
        have : (Dt r n fun x => c (sw a (skip p x))) = - Dt r n fun x => c (skip p x) := by
          by_cases lt : p < a
          · rw [show (fun x => c (sw a (skip p x))) = fun x => (fun y => c (skip p y)) (sw (a - 1) x) by
              funext x; unfold sw skip; congr 1; (repeat' split) <;> omega]
            exact Dt_sw (a - 1) (fun y => c (skip p y)) (by omega)
          · rw [show (fun x => c (sw a (skip p x))) = fun x => (fun y => c (skip p y)) (sw a x) by
              funext x; unfold sw skip; congr 1; (repeat' split) <;> omega]
            exact Dt_sw a (fun y => c (skip p y)) (by omega)
        rw [this]
        grind
theorem Dt_same {n : Nat} {c : Nat → Nat} : ∀ (m a : Nat), a + 1 + m < n → c a = c (a + 1 + m) → Dt r n c = 0 := by
  intro m
  induction m generalizing c with
  | zero =>
    intro a h e
    have h1 := Dt_sw (r := r) a c h
    rw [Dt_congr (d := c) (fun x hx => by
      unfold sw
      split
      · next q => subst q; exact e.symm
      · split
        · next q => subst q; exact e
        · rfl)] at h1
    omega
  | succ m ih =>
    intro a h e
    have h1 := Dt_sw (r := r) (a + 1 + m) c (by omega)
    have h2 := ih (c := fun x => c (sw (a + 1 + m) x)) a (by omega) (by
      show c (sw (a + 1 + m) a) = c (sw (a + 1 + m) (a + 1 + m))
      rw [show sw (a + 1 + m) a = a by unfold sw; rw [if_neg (by omega), if_neg (by omega)], show sw (a + 1 + m) (a + 1 + m) = a + 1 + (m + 1) by unfold sw; rw [if_pos rfl]; omega]
      exact e)
    omega
/-- rows put together -/
def InSpan (r : Nat → Nat → Int) (n : Nat) (f : Nat → Int) : Prop := ∃ c : Nat → Int, ∀ j, f j = sumN n fun t => c t * r t j
theorem InSpan.zero (n : Nat) : InSpan r n fun _ => 0 := ⟨fun _ => 0, fun j => (sumN_zero fun i _ => by rw [Int.zero_mul]).symm⟩
theorem InSpan.add {n : Nat} {f g : Nat → Int} (h : InSpan r n f) (k : InSpan r n g) : InSpan r n fun j => f j + g j := by
  obtain ⟨c, h⟩ := h
  obtain ⟨d, k⟩ := k
  refine ⟨fun t => c t + d t, fun j => ?_⟩
  dsimp only
  rw [h, k, ← sumN_add]
  exact sumN_congr fun i _ => by rw [Int.add_mul]
theorem InSpan.mul {n : Nat} {f : Nat → Int} (a : Int) (h : InSpan r n f) : InSpan r n fun j => a * f j := by
  obtain ⟨c, h⟩ := h
  refine ⟨fun t => a * c t, fun j => ?_⟩
  dsimp only
  rw [h, ← sumN_mul]
  exact sumN_congr fun i _ => by rw [Int.mul_assoc]
theorem InSpan.row {n t : Nat} (h : t < n) : InSpan r n (r t) := by
  refine ⟨fun i => if i = t then 1 else 0, fun j => ?_⟩
  rw [sumN_one h (fun i _ ne => by dsimp only; rw [if_neg ne, Int.zero_mul])]
  dsimp only
  rw [if_pos rfl, Int.one_mul]
theorem InSpan.up {n : Nat} {f : Nat → Int} (h : InSpan r n f) : InSpan r (n + 1) f := by
  obtain ⟨c, h⟩ := h
  refine ⟨fun i => if i = n then 0 else c i, fun j => ?_⟩
  rw [sumN]
  dsimp only
  rw [if_pos rfl, Int.zero_mul, Int.add_zero, h]
  exact sumN_congr fun i hi => by rw [if_neg (by omega)]
theorem InSpan.sum {n : Nat} {f : Nat → Nat → Int} : ∀ m, (∀ p, p < m → InSpan r n (f p)) → InSpan r n fun j => sumN m fun p => f p j
  | 0, _ => InSpan.zero n
  | m + 1, h => (InSpan.sum m fun p hp => h p (by omega)).add (h m (by omega))
theorem InSpan.congr {n : Nat} {f g : Nat → Int} (h : InSpan r n f) (e : ∀ j, g j = f j) : InSpan r n g := by
  obtain ⟨c, h⟩ := h
  exact ⟨c, fun j => (e j).trans (h j)⟩
def upc (c : Nat → Nat) (q j : Nat) : Nat → Nat := fun x => if x = q then j else c x
theorem Dt_span : ∀ {n : Nat} (q : Nat) (c : Nat → Nat), q < n → InSpan r n fun j => Dt r n (upc c q j)
  | 0, _, _, h => by omega
  | n + 1, q, c, h => by
    have : (fun j => Dt r (n + 1) (upc c q j)) = fun j => sumN (n + 1) fun p => sg (n + p) * r n (upc c q j p) * Dt r n (fun x => upc c q j (skip p x)) := rfl
    rw [this]
    refine InSpan.sum (n + 1) (f := fun p j => sg (n + p) * r n (upc c q j p) * Dt r n (fun x => upc c q j (skip p x))) fun p hp => ?_
    by_cases e : p = q
    · subst e
      refine (InSpan.mul (sg (n + p) * Dt r n (fun x => c (skip p x))) (InSpan.row (t := n) (by omega))).congr fun j => ?_
      rw [show upc c p j p = j by unfold upc; rw [if_pos rfl], Dt_congr (d := fun x => c (skip p x)) (fun x _ => by unfold upc skip; (try dsimp only); (repeat' split) <;> first | rfl | omega | (congr 1 <;> omega))]
      grind
    · have hh : ∃ q', q' < n ∧ ∀ j x, upc c q j (skip p x) = upc (fun y => c (skip p y)) q' j x := by
        by_cases lt : q < p
        · exact ⟨q, by omega, fun j x => by unfold upc skip; (try dsimp only); (repeat' split) <;> first | rfl | omega | (congr 1 <;> omega)⟩
        · exact ⟨q - 1, by omega, fun j x => by unfold upc skip; (try dsimp only); (repeat' split) <;> first | rfl | omega | (congr 1 <;> omega)⟩
      obtain ⟨q', hq, hx⟩ := hh
      refine ((Dt_span q' (fun y => c (skip p y)) hq).up.mul (sg (n + p) * r n (c p))).congr fun j => ?_
      rw [show upc c q j p = c p by unfold upc; rw [if_neg e], Dt_congr (fun x _ => hx j x)]
/-- the leading minors, and the rows of elimination -/
def dk (r : Nat → Nat → Int) (k : Nat) : Int := Dt r k id
def Yk (r : Nat → Nat → Int) (k q j : Nat) : Int := Dt r k (upc id q j)
def Gk (r : Nat → Nat → Int) (k : Nat) (x : Nat → Int) (j : Nat) : Int := dk r k * x j - sumN k fun q => x q * Yk r k q j
theorem Yk_span {k q : Nat} (h : q < k) : InSpan r k (Yk r k q) := Dt_span q id h
theorem Yk_self {k q : Nat} : Yk r k q q = dk r k := Dt_congr fun x _ => by
  unfold upc
  by_cases e : x = q
  · rw [if_pos e]; exact e.symm
  · rw [if_neg e]
theorem Yk_other {k q c : Nat} (hq : q < k) (hc : c < k) (h : c ≠ q) : Yk r k q c = 0 := by
  unfold Yk
  by_cases lt : c < q
  · exact Dt_same (q - c - 1) c (by omega) (by rw [show c + 1 + (q - c - 1) = q by omega]; unfold upc; rw [if_neg h, if_pos rfl]; rfl)
  · exact Dt_same (c - q - 1) q (by omega) (by rw [show q + 1 + (c - q - 1) = c by omega]; unfold upc; rw [if_pos rfl, if_neg h]; rfl)
/-- a column put in at a place -/
def insc (c : Nat → Nat) (p j : Nat) : Nat → Nat := fun x => if x < p then c x else if x = p then j else c (x - 1)
theorem Dt_ins {n j : Nat} {c : Nat → Nat} {p : Nat} : ∀ m, p + m < n → Dt r n (insc c (p + m) j) = sg m * Dt r n (insc c p j)
  | 0, _ => by rw [show sg 0 = 1 from rfl, Int.one_mul]; rfl
  | m + 1, h => by
    have e := Dt_sw (r := r) (p + m) (insc c (p + m) j) (show p + m + 1 < n by omega)
    rw [Dt_ins m (by omega)] at e
    rw [sg_succ, show p + (m + 1) = (p + m) + 1 by omega]
    rw [Dt_congr (d := fun x => insc c (p + m) j (sw (p + m) x)) (fun x _ => by unfold insc sw; (repeat' split) <;> first | rfl | omega | (congr 1 <;> omega)), e]
    grind
theorem sg_two (m : Nat) : sg (m + m + 1) = -1 := by unfold sg; rw [if_neg (by omega)]
theorem sg_mul (a b : Nat) : sg a * sg b = sg (a + b) := by
  unfold sg
  (repeat' split) <;> first | rfl | omega
/-- the last row, spread -/
theorem Yk_last {k j : Nat} : Yk r (k + 1) k j = Gk r k (r k) j := by
  unfold Yk Gk
  rw [Dt, sumN, show upc id k j k = j by unfold upc; rw [if_pos rfl], show sg (k + k) = 1 by unfold sg; rw [if_pos (by omega)], Int.one_mul,
    Dt_congr (d := id) (fun x hx => by unfold upc skip; rw [if_pos hx, if_neg (by omega)])]
  rw [sumN_congr (g := fun q => -(r k q * Yk r k q j)) fun p hp => ?_]
  · rw [sumN_neg]
    show -(sumN k fun q => r k q * Yk r k q j) + r k j * dk r k = _
    rw [Int.mul_comm (r k j)]; unfold Yk; omega
  · rw [show upc id k j p = p by unfold upc; rw [if_neg (by omega)]; rfl]
    have e := Dt_ins (r := r) (n := k) (j := j) (c := fun x => skip p x) (p := p) (k - 1 - p) (by omega)
    rw [Dt_congr (c := fun x => upc id k j (skip p x)) (d := insc (fun x => skip p x) (p + (k - 1 - p)) j) (fun x hx => by
      unfold upc skip insc; (try dsimp only); (repeat' split) <;> first | rfl | omega | (congr 1 <;> omega)), e]
    rw [Dt_congr (c := insc (fun x => skip p x) p j) (d := upc id p j) (fun x hx => by
      unfold upc skip insc; dsimp only [id]; (repeat' split) <;> first | rfl | omega | (congr 1 <;> omega))]
    show sg (k + p) * r k p * (sg (k - 1 - p) * Yk r k p j) = _
    have h1 : sg (k + p) * sg (k - 1 - p) = -1 := by rw [sg_mul, show k + p + (k - 1 - p) = (k - 1) + (k - 1) + 1 by omega, sg_two]
    have : sg (k + p) * r k p * (sg (k - 1 - p) * Yk r k p j) = (sg (k + p) * sg (k - 1 - p)) * (r k p * Yk r k p j) := by grind
    rw [this, h1]; omega
end KL
end
section
namespace KL
variable {r : Nat → Nat → Int}
theorem Gk_add {k : Nat} (x y : Nat → Int) (j : Nat) : Gk r k (fun j => x j + y j) j = Gk r k x j + Gk r k y j := by
  unfold Gk
  rw [sumN_congr (g := fun q => x q * Yk r k q j + y q * Yk r k q j) fun q _ => by rw [Int.add_mul], sumN_add]
  grind
theorem Gk_mul {k : Nat} (a : Int) (x : Nat → Int) (j : Nat) : Gk r k (fun j => a * x j) j = a * Gk r k x j := by
  unfold Gk
  rw [sumN_congr (g := fun q => a * (x q * Yk r k q j)) fun q _ => by rw [Int.mul_assoc], sumN_mul]
  grind
theorem Gk_sum {k : Nat} (c : Nat → Int) (j : Nat) : ∀ n, Gk r k (fun j => sumN n fun t => c t * r t j) j = sumN n fun t => c t * Gk r k (r t) j
  | 0 => by
    unfold Gk
    rw [sumN_zero (fun q _ => by show sumN 0 _ * _ = 0; rw [sumN, Int.zero_mul])]
    show dk r k * 0 - 0 = 0
    omega
  | n + 1 => by
    rw [sumN, ← Gk_sum c j n, ← Gk_mul, ← Gk_add]
    rfl
theorem Gk_low {k : Nat} {x : Nat → Int} (h : ∀ q, q < k → x q = 0) (j : Nat) : Gk r k x j = dk r k * x j := by
  unfold Gk
  rw [sumN_zero fun q hq => by rw [h q hq, Int.zero_mul]]
  omega
theorem dk_zero : dk r 0 = 1 := rfl
theorem dk_succ (k : Nat) : dk r (k + 1) = Gk r k (r k) k := by rw [← Yk_last, Yk_self]
/-- all rows ahead are nought -/
def Rk (r : Nat → Nat → Int) (k : Nat) : Prop := ∀ t, t < k → ∀ j, Gk r k (r t) j = 0
theorem star {k q : Nat} (hd : dk r k ≠ 0) (hp : dk r (k + 1) ≠ 0) (R : Rk r k) (hq : q < k) (j : Nat) : dk r (k + 1) * Yk r k q j - Yk r k q k * Gk r k (r k) j = dk r k * Yk r (k + 1) q j := by
  have hs : InSpan r (k + 1) fun j => dk r (k + 1) * Yk r k q j + (- Yk r k q k) * Yk r (k + 1) k j + (- dk r k) * Yk r (k + 1) q j :=
    (((Yk_span hq).up.mul _).add ((Yk_span (by omega)).mul _)).add ((Yk_span (by omega)).mul _)
  obtain ⟨c, hc⟩ := hs
  have z0 : ∀ i, i < k + 1 → dk r (k + 1) * Yk r k q i + (- Yk r k q k) * Yk r (k + 1) k i + (- dk r k) * Yk r (k + 1) q i = 0 := fun i hi => by
    by_cases e : i = k
    · subst e
      rw [Yk_self, Yk_other (show q < i + 1 by omega) (by omega) (by omega)]
      grind
    · rw [Yk_other (show k < k + 1 by omega) hi e]
      by_cases e2 : i = q
      · subst e2
        rw [Yk_self, Yk_self]
        grind
      · rw [Yk_other hq (by omega) e2, Yk_other (by omega) hi e2]
        grind
  have g1 : ∀ j, Gk r k (fun j => dk r (k + 1) * Yk r k q j + (- Yk r k q k) * Yk r (k + 1) k j + (- dk r k) * Yk r (k + 1) q j) j = c k * Gk r k (r k) j := fun j => by
    have : (fun j => dk r (k + 1) * Yk r k q j + (- Yk r k q k) * Yk r (k + 1) k j + (- dk r k) * Yk r (k + 1) q j) = fun j => sumN (k + 1) fun t => c t * r t j := funext hc
    rw [this, Gk_sum, sumN, sumN_zero fun t ht => by rw [R t ht, Int.mul_zero], Int.zero_add]
  have g2 : ∀ j, dk r k * (dk r (k + 1) * Yk r k q j + (- Yk r k q k) * Yk r (k + 1) k j + (- dk r k) * Yk r (k + 1) q j) = c k * Gk r k (r k) j := fun j => by
    rw [← g1 j]
    exact (Gk_low (fun i hi => z0 i (by omega)) j).symm
  have ck : c k = 0 := by
    have e := g2 k
    rw [z0 k (by omega), Int.mul_zero, ← dk_succ] at e
    rcases Int.mul_eq_zero.mp e.symm with h | h
    · exact h
    · exact absurd h hp
  have e := g2 j
  rw [ck, Int.zero_mul] at e
  rcases Int.mul_eq_zero.mp e with h | h
  · exact absurd h hd
  · rw [← Yk_last]
    grind
theorem Gk_step {k : Nat} (hd : dk r k ≠ 0) (hp : dk r (k + 1) ≠ 0) (R : Rk r k) (x : Nat → Int) (j : Nat) : dk r (k + 1) * Gk r k x j - Gk r k x k * Gk r k (r k) j = dk r k * Gk r (k + 1) x j := by
  have e : dk r k * sumN k (fun q => x q * Yk r (k + 1) q j) = dk r (k + 1) * sumN k (fun q => x q * Yk r k q j) - Gk r k (r k) j * sumN k (fun q => x q * Yk r k q k) := by
    rw [← sumN_mul, ← sumN_mul, ← sumN_mul, Int.sub_eq_add_neg, ← sumN_neg, ← sumN_add]
    refine sumN_congr fun q hq => ?_
    have s := star hd hp R hq j
    grind
  have e1 : Gk r (k + 1) x j = dk r (k + 1) * x j - (sumN k (fun q => x q * Yk r (k + 1) q j) + x k * Gk r k (r k) j) := by
    rw [← Yk_last]; rfl
  have e2 : Gk r k x j = dk r k * x j - sumN k fun q => x q * Yk r k q j := rfl
  have e3 : Gk r k x k = dk r k * x k - sumN k fun q => x q * Yk r k q k := rfl
  rw [e1, e2, e3]
  grind
theorem Rk_all : ∀ k, (∀ m, m ≤ k → dk r m ≠ 0) → Rk r k
  | 0, _ => fun t h => by omega
  | k + 1, h => fun t ht j => by
    have R := Rk_all k fun m hm => h m (by omega)
    have e := Gk_step (h k (by omega)) (h (k + 1) (by omega)) R (r t) j
    have z : dk r k * Gk r (k + 1) (r t) j = 0 := by
      rw [← e]
      by_cases hk : t = k
      · subst hk
        rw [← dk_succ]; grind
      · rw [R t (by omega), R t (by omega)]; grind
    rcases Int.mul_eq_zero.mp z with h' | h'
    · exact absurd h' (h k (by omega))
    · exact h'
/-- the table behind k steps of elimination -/
def Tk (r : Nat → Nat → Int) (k i j : Nat) : Int := if i < k then Yk r k i j else Gk r k (r i) j
theorem Tk_zero (i j : Nat) : Tk r 0 i j = r i j := by
  unfold Tk
  rw [if_neg (by omega), Gk_low (fun q h => by omega)]
  show 1 * r i j = r i j
  omega
theorem Tk_pivot (k : Nat) : Tk r k k k = dk r (k + 1) := by unfold Tk; rw [if_neg (by omega), dk_succ]
theorem Tk_same (k j : Nat) : Tk r (k + 1) k j = Tk r k k j := by unfold Tk; rw [if_pos (by omega), if_neg (by omega), Yk_last]
theorem Tk_step {k i : Nat} (h : ∀ m, m ≤ k + 1 → dk r m ≠ 0) (hi : i ≠ k) (j : Nat) : Tk r k k k * Tk r k i j - Tk r k i k * Tk r k k j = dk r k * Tk r (k + 1) i j := by
  have R := Rk_all (r := r) k fun m hm => h m (by omega)
  rw [Tk_pivot]
  unfold Tk
  rw [if_neg (show ¬ k < k by omega)]
  by_cases lt : i < k
  · rw [if_pos lt, if_pos lt, if_pos (show i < k + 1 by omega)]
    exact star (h k (by omega)) (h (k + 1) (by omega)) R lt j
  · rw [if_neg lt, if_neg lt, if_neg (show ¬ i < k + 1 by omega)]
    exact Gk_step (h k (by omega)) (h (k + 1) (by omega)) R (r i) j
/-- solutions: the sum of x j * X j over j < n is D * x n -/
def Lf (n : Nat) (X : Nat → Int) (D : Int) (x : Nat → Int) : Int := sumN n (fun j => x j * X j) - D * x n
theorem Lf_add {n : Nat} {X : Nat → Int} {D : Int} (x y : Nat → Int) : Lf n X D (fun j => x j + y j) = Lf n X D x + Lf n X D y := by
  unfold Lf
  rw [sumN_congr (g := fun j => x j * X j + y j * X j) fun j _ => by rw [Int.add_mul], sumN_add]
  grind
theorem Lf_mul {n : Nat} {X : Nat → Int} {D a : Int} (x : Nat → Int) : Lf n X D (fun j => a * x j) = a * Lf n X D x := by
  unfold Lf
  rw [sumN_congr (g := fun j => a * (x j * X j)) fun j _ => by rw [Int.mul_assoc], sumN_mul]
  grind
theorem Lf_span {n m : Nat} {X : Nat → Int} {D : Int} (h : ∀ t, t < m → Lf n X D (r t) = 0) (c : Nat → Int) : ∀ m', m' ≤ m → Lf n X D (fun j => sumN m' fun t => c t * r t j) = 0
  | 0, _ => by
    unfold Lf
    rw [sumN_zero fun j _ => by show sumN 0 _ * _ = 0; rw [sumN, Int.zero_mul]]
    show 0 - D * 0 = 0
    omega
  | m' + 1, hm => by
    have : (fun j => sumN (m' + 1) fun t => c t * r t j) = fun j => (fun j => sumN m' fun t => c t * r t j) j + (fun j => c m' * r m' j) j := rfl
    rw [this, Lf_add, Lf_mul, Lf_span h c m' (by omega), h m' (by omega)]
    grind
theorem Lf_in {n m : Nat} {X : Nat → Int} {D : Int} {f : Nat → Int} (h : ∀ t, t < m → Lf n X D (r t) = 0) (s : InSpan r m f) : Lf n X D f = 0 := by
  obtain ⟨c, hc⟩ := s
  rw [show f = fun j => sumN m fun t => c t * r t j from funext hc]
  exact Lf_span h c m (Nat.le_refl _)
/-- there is but one solution -/
theorem one_sol {n : Nat} {X : Nat → Int} {D : Int} (h : ∀ t, t < n → Lf n X D (r t) = 0) {q : Nat} (hq : q < n) : dk r n * X q = D * Yk r n q n := by
  have e := Lf_in h (Yk_span (r := r) hq)
  unfold Lf at e
  rw [sumN_one hq (fun i hi ne => by rw [Yk_other hq hi ne, Int.zero_mul]), Yk_self] at e
  omega
/-- .. and elimination finds it -/
theorem the_sol {n : Nat} (h : ∀ m, m ≤ n → dk r m ≠ 0) {t : Nat} (ht : t < n) : Lf n (fun q => Yk r n q n) (dk r n) (r t) = 0 := by
  have e := Rk_all (r := r) n h t ht n
  unfold Gk at e
  unfold Lf
  dsimp only
  omega
/-! ### signs -/
/-- what stands beside the first n columns' own places is nought or below, what stands behind is nought or above -/
structure Sg (n : Nat) (T : Nat → Nat → Int) : Prop where
  off : ∀ i j, i < n → j < n → i ≠ j → T i j ≤ 0
  rhs : ∀ i j, i < n → n ≤ j → 0 ≤ T i j
theorem Sg_step {n k : Nat} (hk : k < n) (s : Sg n (Tk r k)) (h : ∀ m, m ≤ k + 1 → 0 < dk r m) : Sg n (Tk r (k + 1)) := by
  have hne : ∀ m, m ≤ k + 1 → dk r m ≠ 0 := fun m hm => by have := h m hm; omega
  have p0 : 0 < Tk r k k k := by rw [Tk_pivot]; exact h _ (Nat.le_refl _)
  have d0 := h k (by omega)
  constructor
  · intro i j hi hj ne
    by_cases e : i = k
    · subst e
      rw [Tk_same]
      exact s.off i j hi hj ne
    · have e1 := Tk_step hne e j
      have a1 : Tk r k i k ≤ 0 := s.off i k hi hk e
      refine Classical.byContradiction fun c => ?_
      have pos : 0 < dk r k * Tk r (k + 1) i j := Int.mul_pos d0 (by omega)
      rw [← e1] at pos
      by_cases ej : j = k
      · subst ej
        have : Tk r j j j * Tk r j i j - Tk r j i j * Tk r j j j = 0 := by grind
        omega
      · have a2 := s.off i j hi hj ne
        have a3 := s.off k j hk hj (fun x => ej x.symm)
        have b1 : Tk r k k k * Tk r k i j ≤ 0 := Int.mul_nonpos_of_nonneg_of_nonpos (by omega) a2
        have b2 : 0 ≤ Tk r k i k * Tk r k k j := Int.mul_nonneg_of_nonpos_of_nonpos a1 a3
        omega
  · intro i j hi hj
    by_cases e : i = k
    · subst e
      rw [Tk_same]
      exact s.rhs i j hi hj
    · have e1 := Tk_step hne e j
      have a1 : Tk r k i k ≤ 0 := s.off i k hi hk e
      have a2 := s.rhs i j hi hj
      have a3 := s.rhs k j hk hj
      have b1 : 0 ≤ Tk r k k k * Tk r k i j := Int.mul_nonneg (by omega) a2
      have b2 : Tk r k i k * Tk r k k j ≤ 0 := Int.mul_nonpos_of_nonpos_of_nonneg a1 a3
      refine Classical.byContradiction fun c => ?_
      have neg : dk r k * Tk r (k + 1) i j < 0 := Int.mul_neg_of_pos_of_neg d0 (by omega)
      rw [← e1] at neg
      omega
theorem Sg_all {n : Nat} (s : Sg n r) : ∀ k, k ≤ n → (∀ m, m ≤ k → 0 < dk r m) → Sg n (Tk r k)
  | 0, _, _ => ⟨fun i j hi hj ne => by rw [Tk_zero]; exact s.off i j hi hj ne, fun i j hi hj => by rw [Tk_zero]; exact s.rhs i j hi hj⟩
  | k + 1, hk, h => Sg_step (by omega) (Sg_all s k (by omega) fun m hm => h m (by omega)) h
/-- all pivots above nought: the sums are from nought on -/
theorem sol_nonneg {n : Nat} (s : Sg n r) (h : ∀ m, m ≤ n → 0 < dk r m) {q : Nat} (hq : q < n) : 0 ≤ Yk r n q n := by
  have := (Sg_all s n (Nat.le_refl _) h).rhs q n hq (Nat.le_refl _)
  unfold Tk at this
  rwa [if_pos hq] at this
theorem sumN_np {f : Nat → Int} : ∀ {n : Nat}, (∀ i, i < n → f i ≤ 0) → sumN n f ≤ 0 ∧ (sumN n f = 0 → ∀ i, i < n → f i = 0)
  | 0, _ => ⟨Int.le_refl _, fun _ i h => by omega⟩
  | n + 1, h => by
    obtain ⟨a, b⟩ := sumN_np (n := n) fun i hi => h i (by omega)
    have c := h n (by omega)
    rw [sumN]
    refine ⟨by omega, fun e i hi => ?_⟩
    by_cases q : i = n
    · subst q; omega
    · exact b (by omega) i (by omega)
/-- from every state one comes to an end -/
def Live (n : Nat) (r : Nat → Nat → Int) : Prop := ∀ U : Nat → Prop, (∃ k, k < n ∧ U k) → (∀ t, t < n → U t → ∀ j, j < n → ¬ U j → r t j = 0) → (∀ t, t < n → U t → r t n = 0) → False
theorem X_pos {n : Nat} (s : Sg n r) (lv : Live n r) {X : Nat → Int} {D : Int} (hD : 0 < D) (hX : ∀ q, q < n → 0 ≤ X q) (h : ∀ t, t < n → Lf n X D (r t) = 0) {k : Nat} (hk : k < n) : 0 < X k := by
  refine Classical.byContradiction fun c => ?_
  have key : ∀ t, t < n → X t = 0 → r t n = 0 ∧ ∀ j, j < n → r t j * X j = 0 := fun t ht e => by
    have np := sumN_np (n := n) (f := fun j => r t j * X j) fun j hj => by
      by_cases q : t = j
      · subst q; show r t t * X t ≤ 0; rw [e, Int.mul_zero]; exact Int.le_refl _
      · exact Int.mul_nonpos_of_nonpos_of_nonneg (s.off t j ht hj q) (hX j hj)
    have e2 : sumN n (fun j => r t j * X j) - D * r t n = 0 := h t ht
    have rn := s.rhs t n ht (Nat.le_refl _)
    have m0 : 0 ≤ D * r t n := Int.mul_nonneg (by omega) rn
    have z : D * r t n = 0 := by omega
    refine ⟨?_, np.2 (by omega)⟩
    rcases Int.mul_eq_zero.mp z with q | q
    · omega
    · exact q
  refine lv (fun t => X t = 0) ⟨k, hk, by have := hX k hk; omega⟩ (fun t ht e j hj ne => ?_) (fun t ht e => (key t ht e).1)
  rcases Int.mul_eq_zero.mp ((key t ht e).2 j hj) with q | q
  · exact q
  · exact absurd q ne
/-- where sums from nought on solve all, each pivot is above nought -/
theorem piv_pos {n : Nat} (s : Sg n r) (lv : Live n r) (hI : ∀ i t, i < n → t < n → r i (n + 1 + t) = if t = i then 1 else 0) {X : Nat → Int} {D : Int} (hD : 0 < D) (hX : ∀ q, q < n → 0 ≤ X q) (h : ∀ t, t < n → Lf n X D (r t) = 0) :
    ∀ k, k ≤ n → ∀ m, m ≤ k → 0 < dk r m
  | 0, _, m, hm => by rw [show m = 0 by omega, dk_zero]; decide
  | k + 1, hk, m, hm => by
    have ih := piv_pos s lv hI hD hX h k (by omega)
    by_cases hmk : m ≤ k
    · exact ih m hmk
    have em : m = k + 1 := by omega
    subst em
    have sg := Sg_all s k (by omega) ih
    have hkn : k < n := by omega
    have TY : ∀ j, Tk r k k j = Yk r (k + 1) k j := fun j => by unfold Tk; rw [if_neg (by omega), Yk_last]
    have sp := Yk_span (r := r) (show k < k + 1 by omega)
    have L := Lf_in (n := n) (X := X) (D := D) (fun t ht => h t (by omega)) sp
    have low : ∀ j, j < k → Tk r k k j = 0 := fun j hj => by rw [TY]; exact Yk_other (by omega) (by omega) (by omega)
    have Xk := X_pos s lv hD hX h hkn
    have L' : sumN n (fun j => Tk r k k j * X j) = D * Tk r k k n := by
      unfold Lf at L
      rw [sumN_congr (g := fun j => Tk r k k j * X j) (fun j _ => by rw [TY]), ← TY] at L
      omega
    have Tn := sg.rhs k n hkn (Nat.le_refl _)
    have Tn' : 0 ≤ D * Tk r k k n := Int.mul_nonneg (by omega) Tn
    rw [← Tk_pivot]
    refine Classical.byContradiction fun c => ?_
    have np := sumN_np (n := n) (f := fun j => Tk r k k j * X j) fun j hj => by
      by_cases q : k = j
      · subst q; exact Int.mul_nonpos_of_nonpos_of_nonneg (by omega) (by omega)
      · exact Int.mul_nonpos_of_nonpos_of_nonneg (sg.off k j hkn hj q) (hX j hj)
    have z0 := np.2 (by omega)
    have zj : ∀ j, j < n → Tk r k k j = 0 := fun j hj => by
      have Xj := X_pos s lv hD hX h hj
      rcases Int.mul_eq_zero.mp (z0 j hj) with q | q
      · exact q
      · omega
    have zn : Tk r k k n = 0 := by
      have : D * Tk r k k n = 0 := by
        rw [← L']
        exact sumN_zero z0
      rcases Int.mul_eq_zero.mp this with q | q
      · omega
      · exact q
    obtain ⟨cf, hc⟩ := sp
    have cI : ∀ t, t < k + 1 → Tk r k k (n + 1 + t) = cf t := fun t ht => by
      rw [TY, hc, sumN_one ht fun i hi ne => by rw [hI i t (by omega) (by omega), if_neg (fun e => ne e.symm), Int.mul_zero]]
      rw [hI t t (by omega) (by omega), if_pos rfl, Int.mul_one]
    have c0 : ∀ t, t < k + 1 → 0 ≤ cf t := fun t ht => by rw [← cI t ht]; exact sg.rhs k _ hkn (by omega)
    have ck : cf k = dk r k := by
      rw [← cI k (by omega)]
      unfold Tk Gk
      rw [if_neg (by omega), hI k k hkn hkn, if_pos rfl, sumN_zero fun q hq => ?_]
      · omega
      · obtain ⟨d, hd⟩ := Yk_span (r := r) hq
        rw [hd, sumN_zero fun i hi => by rw [hI i k (by omega) hkn, if_neg (by omega), Int.mul_zero], Int.mul_zero]
    have d0 := ih k (Nat.le_refl _)
    have col : ∀ j, Tk r k k j = 0 → (∀ t, t < k + 1 → 0 < cf t → r t j ≤ 0) → ∀ t, t < k + 1 → 0 < cf t → r t j = 0 := fun j hj hn t ht hp => by
      have e : sumN (k + 1) (fun t => cf t * r t j) = 0 := by rw [← hc, ← TY]; exact hj
      have := (sumN_np (n := k + 1) (f := fun t => cf t * r t j) fun i hi => by
        by_cases q : 0 < cf i
        · exact Int.mul_nonpos_of_nonneg_of_nonpos (by omega) (hn i hi q)
        · have := c0 i hi
          show cf i * r i j ≤ 0
          rw [show cf i = 0 by omega, Int.zero_mul]; exact Int.le_refl _).2 e t ht
      rcases Int.mul_eq_zero.mp this with q | q
      · omega
      · exact q
    refine lv (fun t => t < k + 1 ∧ 0 < cf t) ⟨k, hkn, by omega, by rw [ck]; exact d0⟩ (fun t ht u j hj nu => ?_) (fun t ht u => ?_)
    · exact col j (zj j hj) (fun i hi hp => s.off i j (by omega) hj fun e => nu (by subst e; exact ⟨hi, hp⟩)) t u.1 u.2
    · have e : sumN (k + 1) (fun t => - (cf t * r t n)) = 0 := by rw [sumN_neg, ← hc, ← TY, zn]; rfl
      have := (sumN_np (n := k + 1) (f := fun t => - (cf t * r t n)) fun i hi => by
        have := Int.mul_nonneg (c0 i hi) (s.rhs i n (by omega) (Nat.le_refl _))
        show - (cf i * r i n) ≤ 0
        omega).2 e t u.1
      have e3 : cf t * r t n = 0 := by
        have e4 : - (cf t * r t n) = 0 := this
        omega
      rcases Int.mul_eq_zero.mp e3 with q | q
      · have := u.2; omega
      · exact q
end KL
end
section
namespace KL
variable {r : Nat → Nat → Int}
theorem sumN_abs {f : Nat → Int} {b : Nat} : ∀ {n : Nat}, (∀ i, i < n → (f i).natAbs ≤ b) → (sumN n f).natAbs ≤ n * b
  | 0, _ => by rw [Nat.zero_mul]; exact Nat.le_refl _
  | n + 1, h => by
    have a := sumN_abs (n := n) fun i hi => h i (by omega)
    have c := h n (by omega)
    rw [sumN, Nat.succ_mul]
    omega
theorem sg_abs (m : Nat) : (sg m).natAbs = 1 := by unfold sg; split <;> rfl
theorem Dt_abs {B M N : Nat} (hB : ∀ i j, (r i j).natAbs ≤ B) (hM : N * B ≤ M) : ∀ {n : Nat} (c : Nat → Nat), n ≤ N → (Dt r n c).natAbs ≤ M ^ n
  | 0, _, _ => Nat.le_refl _
  | n + 1, c, h => by
    rw [Dt]
    refine Nat.le_trans (sumN_abs (b := B * M ^ n) fun p hp => ?_) ?_
    · rw [Int.natAbs_mul, Int.natAbs_mul, sg_abs, Nat.one_mul]
      exact Nat.mul_le_mul (hB _ _) (Dt_abs hB hM _ (by omega))
    · rw [← Nat.mul_assoc, Nat.pow_succ, Nat.mul_comm (M ^ n) M]
      refine Nat.mul_le_mul_right _ (Nat.le_trans (Nat.mul_le_mul_right _ h) hM)
theorem Gk_abs {B M N k : Nat} {x : Nat → Int} (hB : ∀ i j, (r i j).natAbs ≤ B) (hx : ∀ j, (x j).natAbs ≤ B) (hM : N * B ≤ M) (hk : k + 1 ≤ N) (j : Nat) : (Gk r k x j).natAbs ≤ M ^ (k + 1) := by
  have a : (dk r k * x j).natAbs ≤ M ^ k * B := by
    rw [Int.natAbs_mul]
    exact Nat.mul_le_mul (Dt_abs hB hM _ (by omega)) (hx j)
  have b : (sumN k fun q => x q * Yk r k q j).natAbs ≤ k * (M ^ k * B) := sumN_abs fun q hq => by
    rw [Int.natAbs_mul, Nat.mul_comm]
    exact Nat.mul_le_mul (Dt_abs hB hM _ (by omega)) (hx q)
  have e : M ^ k * B + k * (M ^ k * B) = (k + 1) * B * M ^ k := by rw [Nat.add_comm, ← Nat.succ_mul, Nat.mul_comm (M ^ k), ← Nat.mul_assoc]
  have f : (k + 1) * B * M ^ k ≤ M * M ^ k := Nat.mul_le_mul_right _ (Nat.le_trans (Nat.mul_le_mul_right _ hk) hM)
  rw [Nat.pow_succ, Nat.mul_comm (M ^ k) M]
  unfold Gk
  omega
theorem Tk_abs {B M N k i : Nat} (hB : ∀ i j, (r i j).natAbs ≤ B) (hM : N * B ≤ M) (hk : k + 1 ≤ N) (h1 : 1 ≤ M) (j : Nat) : (Tk r k i j).natAbs ≤ M ^ (k + 1) := by
  unfold Tk
  split
  · exact Nat.le_trans (Dt_abs hB hM _ (by omega)) (Nat.pow_le_pow_right h1 (by omega))
  · exact Gk_abs hB (hB i) hM hk j
end KL
end
section
set_option maxHeartbeats 1000000
namespace KL
open PySem PySem.Spec PyProof.Rows L2
abbrev sc_solvedN : List Str := ["table", "last", "states", "at", "chosen", "k", "row"]
abbrev s_solved : Stmt := topS 32
theorem sc_solved : FnScope ["table", "last", "states", "at", "chosen", "k", "row"] ["table"] (defScope s_solved) := ⟨rfl, rfl, rfl, by decide +kernel, rfl, by decide +kernel, by decide +kernel⟩
abbrev frT (a b : Int) : Th := .tup [.int (lowT a b), .int (b / ((Nat.gcd a.natAbs b.natAbs : Nat) : Int))]
def refs (ads : Nat → Addr) (n : Nat) : List V := (List.range n).map fun i => V.ref (ads i)
theorem refs_len (ads : Nat → Addr) (n : Nat) : (refs ads n).length = n := by unfold refs; rw [List.length_map, List.length_range]
theorem refs_get {ads : Nat → Addr} {n i : Nat} (h : i < n) : (refs ads n)[i]? = some (.ref (ads i)) := by unfold refs; rw [List.getElem?_map, List.getElem?_range h]; rfl
theorem refs_of {ads : Nat → Addr} {n i : Nat} {v : V} (h : (refs ads n)[i]? = some v) : i < n ∧ v = .ref (ads i) := by
  have hj : i < n := by have := (List.getElem?_eq_some_iff.mp h).1; rwa [refs_len] at this
  rw [refs_get hj] at h
  exact ⟨hj, (Option.some.inj h).symm⟩
theorem refs_succ (ads : Nat → Addr) (n : Nat) (a : Addr) : refs (fun i => if i = n then a else ads i) (n + 1) = refs ads n ++ [.ref a] := by
  unfold refs
  rw [List.range_succ, List.map_append]
  congr 1
  · exact List.map_congr_left fun i m => by dsimp only; rw [if_neg (by have := List.mem_range.mp m; omega)]
  · show [V.ref (if n = n then a else ads n)] = _
    rw [if_pos rfl]
def spSolved : Sp := fun vs H Q _ => ∃ (T : Addr) (ads : Nat → Addr) (r : Nat → Nat → Int) (n : Nat), vs = [.ref T] ∧ H T = some (.lst (refs ads n)) ∧ (∀ i, i < n → H (ads i) = some (.lst (rowV (r i) (n + 1)))) ∧ 1 ≤ n ∧ n ≤ 30 ∧ (∀ i j, (r i j).natAbs ≤ 2 ^ 64) ∧
  ((∀ m, m ≤ n → 0 < dk r m) → ∀ v H', Same H H' → At (Trk H) H' (.tup ((List.range n).map fun i => frT (Yk r n i n) (dk r n))) v → Q v H') ∧ ((∃ m, m ≤ n ∧ dk r m ≤ 0) → ∀ H', Same H H' → Q .non H')
theorem pow_small {k : Nat} (h : k ≤ 31) : (31 * 2 ^ 64) ^ k < 2 ^ 4000 := Nat.lt_of_le_of_lt (Nat.pow_le_pow_right (by decide) h) (by decide +kernel)
theorem tk_small {r : Nat → Nat → Int} {k i : Nat} (hB : ∀ i j, (r i j).natAbs ≤ 2 ^ 64) (hk : k ≤ 30) (j : Nat) : (Tk r k i j).natAbs < 2 ^ 4000 :=
  Nat.lt_of_le_of_lt (Tk_abs (N := 31) (M := 31 * 2 ^ 64) hB (Nat.le_refl _) (by omega) (by decide) j) (pow_small (by omega))
theorem dk_small {r : Nat → Nat → Int} {k : Nat} (hB : ∀ i j, (r i j).natAbs ≤ 2 ^ 64) (hk : k ≤ 31) : (dk r k).natAbs < 2 ^ 4000 :=
  Nat.lt_of_le_of_lt (Dt_abs (N := 31) (M := 31 * 2 ^ 64) hB (Nat.le_refl _) _ hk) (pow_small hk)
section
variable {P : Program} {w : World} {K : PySem.W.Frag} {mg : Str → Option Value} {base : Heap} {k : Nat} {t1 t2 t3 : Tok}
theorem ok_solved (Z : Zs mg) (c_lowest : Cal P w K mg base CX0 k "lowest" ["top", "bottom"] spLowest) (c_cleared : Cal P w K mg base CX0 k "cleared" ["row", "chosen", "at", "last"] spCleared) (d : Def K mg "solved" s_solved ["table"]) : Cal P w K mg base CX0 (k + 1) "solved" ["table"] spSolved := by
  refine d.ok sc_solved (fun vs H Q E h => ?_) (fun f cdv A outer s H vs Q E hr h => ?_)
  · obtain ⟨_, _, _, _, rfl, _⟩ := h; rfl
  obtain ⟨T, ads, r, n, rfl, eT, eA, n1, n30, hB, q1, q0⟩ := h
  refine ⟨_, (pss_cons (ps_set (i := 1) sc_solved.nd rfl (Or.inr rfl) pe_int)
      (pss_cons (ps_set (i := 2) sc_solved.nd rfl (Or.inl rfl) (pe_callB (id := "len") call_len_seq (by rfl) Z.len (by decide +kernel) (pa_cons (pv 0) pa_nil)))
      (pss_cons (ps_for PassesOwn.never rfl (pi_range1 (by rfl) Z.range (pa_cons (pv 2) pa_nil)) (pg_name (i := 3) sc_solved.nd rfl (Or.inr rfl)) (pss_cons (ps_set (i := 4) sc_solved.nd rfl (Or.inr rfl) (pe_ix ix_list (pv 0) (pv 3) (fun _ _ => rfl)))
      (pss_cons (ps_if (pt_cmpR op_le (pe_ix ix_list (pv 4) (pv 3) (fun _ _ => rfl)) pe_int (nomark _)) (pss_one (ps_ret pe_non)) pss_nil)
      (pss_cons (ps_setLc (i := 0) (own := [("k", 5), ("row", 6)]) (g := (gTup K 2 (gCons (gName 5) (gCons (gName 6) gNil)))) (tt := tYes) rfl sc_solved.nd rfl rfl (sw_true rfl rfl rfl (by decide +kernel)) (pi_enum (by rfl) Z.enumerate (pa_cons (pv 0) pa_nil)) (blkOk_by (N := ["table", "last", "states", "at", "chosen", "k", "row"]) (sc := defScope s_solved) (by decide +kernel)) (fun _ _ _ _ _ => (pg_tup (by rfl) (pgs_cons (pg_name (i := 5) sc_solved.nd rfl (Or.inl rfl)) (pgs_cons (pg_name (i := 6) sc_solved.nd rfl (Or.inl rfl)) pgs_nil)))) (fun _ _ _ _ _ => pts_nil) (fun _ _ _ _ _ => (pe_ifExp (pt_cmpR op_eq (pv 5) (pv 3) (nomark _)) (pv 6) (pe_cal c_cleared hr (by rfl) (pa_cons (pv 6) (pa_cons (pv 4) (pa_cons (pv 3) (pa_cons (pv 1) pa_nil))))))))
      (pss_one (ps_set (i := 1) sc_solved.nd rfl (Or.inr rfl) (pe_ix ix_list (pv 4) (pv 3) (fun _ _ => rfl))))))))
      (pss_one (ps_ret (pe_callTy (T := "tuple") call_tuple_of (by rfl) Z.tuple (by decide +kernel) (pa_cons (pe_lc (own := [("row", 6)]) (g := gName 6) (tt := tYes) rfl sc_solved.nd (pi_list (pv 0)) (blkOk_by (N := ["table", "last", "states", "at", "chosen", "k", "row"]) (sc := defScope s_solved) (by decide +kernel)) (fun _ _ _ _ _ => (pg_name (i := 6) sc_solved.nd rfl (Or.inl rfl))) (fun _ _ _ _ _ => pts_nil) (fun _ _ _ _ _ => (pe_cal c_lowest hr (by rfl) (pa_cons (pe_ix (r := rIxL K) ix_list (pv 6) (pe_un un_neg pe_int) (fun _ _ => rfl)) (pa_cons (pv 1) pa_nil))))) pa_nil))))))), ?_⟩
  refine ⟨_, rfl, T, _, rfl, .inl (.of eT), ?_⟩
  rw [refs_len]
  refine ⟨_, rfl, _, rfl, by omega, by omega, ?_⟩
  rw [Int.toNat_natCast]
  refine for_range (lo := 0) (n := n) (fun c σ' H' => Same H H' ∧ (∀ m, m ≤ c → 0 < dk r m) ∧ ∃ (T' : Addr) (ads' : Nat → Addr) (y3 y4 y5 y6 : Option V), σ' = [some (.ref T'), some (.int (dk r c)), some (.int (n : Nat)), y3, y4, y5, y6] ∧ H' T' = some (.lst (refs ads' n)) ∧ ∀ i, i < n → H' (ads' i) = some (.lst (rowV (Tk r c i) (n + 1))))
    ⟨Same.refl _, fun m hm => by rw [show m = 0 by omega, dk_zero]; decide, T, ads, none, none, none, none, rfl, eT, fun i hi => by rw [eA i hi]; congr 2; exact rowV_congr fun j _ => (Tk_zero i j).symm⟩ (fun c σ' H' hc p' => ?_) (fun σ' H' p' => ?_)
  · obtain ⟨s', hp, T', ads', y3, y4, y5, y6, rfl, eT', eA'⟩ := p'
    refine ⟨_, rfl, _, rfl, T', _, _, _, rfl, rfl, .inl (.of eT'), (by rw [Int.zero_add]; exact atI_nat (refs_get hc)), ?_⟩
    have eC := eA' c hc
    have g1 : atI (rowV (Tk r c c) (n + 1)) (0 + (c : Int)) = some (.int (Tk r c c c)) := by rw [Int.zero_add]; exact atI_nat (rowV_get (by omega))
    refine ⟨_, rfl, _, rfl, ads' c, _, _, _, rfl, rfl, .inl (.of eC), g1, _, _, rfl, rfl, _, rfl, iteB (fun e1 => ?_) (fun e1 => ?_)⟩
    · have le := of_decide_eq_true e1
      rw [Tk_pivot] at le
      exact q0 ⟨c + 1, by omega, le⟩ H' s'
    have gt := of_decide_eq_false e1
    rw [Tk_pivot] at gt
    have hp' : ∀ m, m ≤ c + 1 → 0 < dk r m := fun m hm => by
      by_cases e : m = c + 1
      · subst e; omega
      · exact hp m (by omega)
    have hne : ∀ m, m ≤ c + 1 → dk r m ≠ 0 := fun m hm => by have := hp' m hm; omega
    have d0 := hp c (Nat.le_refl _)
    refine ⟨_, rfl, T', _, rfl, .inl (.of eT'), fun D hD => lc_it walk_enum (fun j G => Same H' G ∧ ∃ ads2 : Nat → Addr, G D = some (.lst (refs ads2 j)) ∧ ∀ i, i < j → ads2 i ≠ D ∧ G (ads2 i) = some (.lst (rowV (Tk r (c + 1) i) (n + 1)))) ⟨same_new hD _, ads', upd_same, fun i hi => by omega⟩ (fun j G _ p2 => .inl (.of (p2.1 _ _ eT'))) (fun j x G G' hj p2 y => ?_) (fun G p2 => ?_)⟩
    · obtain ⟨sG, ads2, eD, e2⟩ := p2
      obtain ⟨Tt, k1, k2, rfl, nT, rfl, g2, g3⟩ := y
      cases g2
      obtain ⟨hjn, rfl⟩ := refs_of g3
      have yT := same_new nT (.tup [V.int (j : Nat), V.ref (ads' j)])
      have sT := sG.trans yT
      have eD' := yT _ _ eD
      have eJ := sT _ _ (eA' j hjn)
      have eC' := sT _ _ eC
      have e2' : ∀ i, i < j → ads2 i ≠ D ∧ (upd G Tt (.tup [V.int (j : Nat), V.ref (ads' j)])) (ads2 i) = some (.lst (rowV (Tk r (c + 1) i) (n + 1))) := fun i hi => ⟨(e2 i hi).1, yT _ _ (e2 i hi).2⟩
      refine ⟨Tt, _, rfl, .of upd_same, rfl, _, _, rfl, _, _, rfl, rfl, rfl, ?_⟩
      generalize upd G Tt (.tup [V.int (j : Nat), V.ref (ads' j)]) = G1 at *
      have fin : ∀ (a : Addr) (G2 : Hp), Same G1 G2 → a ≠ D → G2 a = some (.lst (rowV (Tk r (c + 1) j) (n + 1))) → ∃ acc, G2 D = some (.lst acc) ∧ acc.length < sizeLine ∧ Same H' (upd G2 D (.lst (acc ++ [.ref a]))) ∧ ∃ ads2 : Nat → Addr, (upd G2 D (.lst (acc ++ [.ref a]))) D = some (.lst (refs ads2 (j + 1))) ∧ ∀ i, i < j + 1 → ads2 i ≠ D ∧ (upd G2 D (.lst (acc ++ [.ref a]))) (ads2 i) = some (.lst (rowV (Tk r (c + 1) i) (n + 1))) := fun a G2 s2 na ea => by
        refine ⟨_, s2 _ _ eD', by rw [refs_len, sizeLine_eq]; omega, Same.upd_new (sT.trans s2) hD _, fun i => if i = j then a else ads2 i, by rw [upd_same, refs_succ], fun i hi => ?_⟩
        by_cases e : i = j
        · subst e
          dsimp only
          rw [if_pos rfl]
          exact ⟨na, by rw [upd_ne na]; exact ea⟩
        · dsimp only
          rw [if_neg e]
          obtain ⟨h1, h2⟩ := e2' i (by omega)
          exact ⟨h1, by rw [upd_ne h1]; exact s2 _ _ h2⟩
      refine ⟨_, rfl, _, rfl, rfl, _, rfl, iteB (fun e3 => ?_) (fun e3 => ?_)⟩
      · have ej : j = c := by have := decI (A := True) e3; omega
        subst ej
        refine ⟨_, rfl, fin (ads' j) G1 (Same.refl _) (fun h => by have e9 := eA' j hjn; rw [h, hD] at e9; cases e9) ?_⟩
        rw [eJ]
        congr 2
        exact rowV_congr fun i _ => (Tk_same j i).symm
      · have ej : j ≠ c := fun h => by have := decI0 e3; omega
        refine ⟨_, rfl, _, rfl, _, rfl, _, rfl, ads' j, ads' c, Tk r c j, Tk r c c, n + 1, c, dk r c, (by rw [Int.zero_add]; rfl), eJ, eC', by omega, by omega, d0, dk_small hB (by omega), fun i _ => tk_small hB (by omega) i, fun i _ => tk_small hB (by omega) i, fun N G2 s2 nN eN => ?_⟩
        refine fin N G2 s2 (fun h => by rw [h, eD'] at nN; cases nN) ?_
        rw [eN]
        congr 2
        exact rowV_congr fun i _ => by rw [Tk_step hne ej i, Int.mul_ediv_cancel_left _ (by omega)]
    · obtain ⟨sG, ads2, eD, e2⟩ := p2
      have g1' : atI (rowV (Tk r c c) (n + 1)) (0 + (c : Int)) = some (.int (dk r (c + 1))) := by rw [g1, Tk_pivot]
      rw [refs_len] at eD e2
      exact ⟨_, rfl, _, rfl, ads' c, _, _, _, rfl, rfl, .inl (.of (sG _ _ eC)), g1', s'.trans sG, hp', D, ads2, _, _, _, _, rfl, eD, fun i hi => (e2 i hi).2⟩
  · obtain ⟨s', hp, T', ads', y3, y4, y5, y6, rfl, eT', eA'⟩ := p'
    refine ⟨_, rfl, T', rfl, ⟨_, .of eT'⟩, lc_newZ (Z := Trk H) (f := fun j => frT (Yk r n j n) (dk r n)) walk_list (fun _ _ _ _ h => h) (fun G sG => .of (sG _ _ eT')) (by rw [refs_len]; omega) (fun _ => rfl) (fun D nD j x G hj ex sG tD R hR => ?_) (fun D G vs sG nD eD aD => ?_)⟩
    · obtain ⟨hjn, rfl⟩ := refs_of ex
      have hl : atI (rowV (Tk r n j) (n + 1)) (-1) = some (.int (Tk r n j n)) := by rw [rowV_succ]; exact atI_last _ _
      have eY : Tk r n j n = Yk r n j n := by unfold Tk; rw [if_pos hjn]
      rw [eY] at hl
      refine ⟨_, rfl, 1, rfl, ads' j, _, _, _, rfl, rfl, .inl (.of (sG _ _ (eA' j hjn))), hl, _, rfl, _, _, rfl, hp n (Nat.le_refl _), dk_small hB (by omega), fun p G2 s2 np e2 => hR _ G2 s2 ⟨p, _, rfl, fun h => ?_, e2, .cons rfl (.cons rfl .nil)⟩⟩
      rcases h with rfl | h
      · exact tD np
      · exact Trk.same (s'.trans sG) h np
    · rw [refs_len] at aD
      refine ⟨D, vs, rfl, .inl ⟨.of eD, fun p4 n4 => ?_⟩⟩
      have y4 := same_new n4 (.tup vs)
      exact q1 hp _ _ (s'.trans (sG.trans y4)) ⟨p4, vs, rfl, fun h => Trk.not n4 (Trk.same (s'.trans sG) h), upd_same, (aD.less fun a h => .inr h).same y4⟩
end
end KL
end
section
set_option maxHeartbeats 1000000
namespace KL
open PySem PySem.Spec PyProof.Rows L2
abbrev sc_worthsN : List Str := ["machine", "rows", "state"]
abbrev s_worths : Stmt := topS 28
theorem sc_worths : FnScope ["machine", "rows", "state"] ["machine"] (defScope s_worths) := ⟨rfl, rfl, rfl, by decide +kernel, rfl, by decide +kernel, by decide +kernel⟩
abbrev sc_totalN : List Str := ["machine", "told"]
abbrev s_total : Stmt := topS 27
theorem sc_total : FnScope ["machine", "told"] ["machine"] (defScope s_total) := ⟨rfl, rfl, rfl, by decide +kernel, rfl, by decide +kernel, by decide +kernel⟩
theorem sum_abs {f : Th → Int} {b : Nat} : ∀ (ss : List Th), (∀ st ∈ ss, (f st).natAbs ≤ b) → ((ss.map f).sum).natAbs ≤ ss.length * b
  | [], _ => Nat.zero_le _
  | st :: ss, h => by
    have a := sum_abs ss fun x m => h x (List.mem_cons_of_mem _ m)
    have c := h st List.mem_cons_self
    rw [List.map_cons, List.sum_cons, List.length_cons, Nat.succ_mul]
    omega
theorem pow60 {m : Int} (h : 0 ≤ m) : ((2 : Int) ^ (60 - m).toNat).natAbs ≤ 2 ^ 60 := by
  rw [Int.natAbs_pow]
  exact Nat.pow_le_pow_right (by decide) (by omega)
theorem shT_abs {n : Int} {st : Th} (h : StepIs n st) (j : Nat) : (shT j st).natAbs ≤ 2 ^ 60 := by
  rcases h with rfl | ⟨m, s, rfl, m0, _⟩
  · exact Nat.zero_le _
  · show (if s = (j : Int) then (2 : Int) ^ (60 - m).toNat else 0).natAbs ≤ 2 ^ 60
    split
    · exact pow60 m0
    · exact Nat.zero_le _
theorem eqr_abs {z : Int} {rows : List Th} (ok : MOk z rows) (i j : Nat) : (eqr rows i j).natAbs ≤ 2 ^ 64 := by
  have z8 := ok.z8
  by_cases hi : i < rows.length
  · obtain ⟨e, ss, er, h1, h2, h3⟩ := ok.row hi
    have hs : (shS ss j).natAbs ≤ 8 * 2 ^ 60 := Nat.le_trans (sum_abs ss fun st m => shT_abs (h3 st m) j) (Nat.mul_le_mul_right _ (by omega))
    have he : (shE e).natAbs ≤ 2 ^ 60 := by
      rcases h1 with rfl | ⟨i0, rfl, i1, _⟩
      · exact Nat.zero_le _
      · exact pow60 (by omega)
    unfold eqr
    rw [er]
    show (if j < rows.length then (if j = i then 2 ^ 60 else 0) - shS ss j else if j = rows.length then shE e else if j = rows.length + 1 + i then 1 else 0).natAbs ≤ 2 ^ 64
    split
    · split <;> omega
    · split
      · omega
      · split <;> decide
  · unfold eqr
    rw [List.getElem?_eq_none (by omega)]
    show (if j < rows.length then (if j = i then 2 ^ 60 else 0) - 0 else if j = rows.length then 0 else if j = rows.length + 1 + i then 1 else 0 : Int).natAbs ≤ 2 ^ 64
    split
    · split <;> decide
    · split
      · decide
      · split <;> decide
/-- all pivots are above nought -/
def PosR (rows : List Th) : Prop := ∀ m, m ≤ rows.length → 0 < dk (eqr rows) m
theorem not_Pos {rows : List Th} (h : ¬ PosR rows) : ∃ m, m ≤ rows.length ∧ dk (eqr rows) m ≤ 0 := by
  refine Classical.byContradiction fun c => h fun m hm => ?_
  refine Classical.byContradiction fun c2 => c ⟨m, hm, by omega⟩
/-- the worths told -/
def wosT (rows : List Th) : Th := .tup ((List.range rows.length).map fun i => frT (Yk (eqr rows) rows.length i rows.length) (dk (eqr rows) rows.length))
def spWorths (CM : Addr) : Sp := fun vs H Q E => ∃ (Z : Zone) (u : V) (e : Th), vs = [u] ∧ At Z H e u ∧ shortT e = true ∧
  (∀ z rows, e = .tup [.int z, .tup rows] → MOk z rows → (PosR (trimL z rows) → ∀ v H', Same H H' → At (Trk H) H' (wosT (trimL z rows)) v → Q v H') ∧ (¬ PosR (trimL z rows) → ∀ H', Same H H' → Q .non H')) ∧ (machB e = false → ∀ H', Same H H' → E (.ref CM) none H')
def topT (rows : List Th) : Int := lowT (Yk (eqr rows) rows.length 0 rows.length) (dk (eqr rows) rows.length)
def botT (rows : List Th) : Int := dk (eqr rows) rows.length / ((Nat.gcd (Yk (eqr rows) rows.length 0 rows.length).natAbs (dk (eqr rows) rows.length).natAbs : Nat) : Int)
def spTotal (CM : Addr) : Sp := fun vs H Q E => ∃ (Z : Zone) (u : V) (e : Th), vs = [u] ∧ At Z H e u ∧ shortT e = true ∧
  (∀ z rows, e = .tup [.int z, .tup rows] → MOk z rows → (PosR (trimL z rows) → ∀ v H', Same H H' → At (Trk H) H' (.tup [.int (topT (trimL z rows)), .int (botT (trimL z rows))]) v → Q v H') ∧ (¬ PosR (trimL z rows) → ∀ H', Same H H' → Q .non H')) ∧ (machB e = false → ∀ H', Same H H' → E (.ref CM) none H')
def spKeptM (CM : Addr) : Sp := fun vs H Q E => ∃ (Z : Zone) (u : V) (e : Th), vs = [u] ∧ At Z H e u ∧ shortT e = true ∧
  (∀ z rows, e = .tup [.int z, .tup rows] → MOk z rows → ∀ H', Same H H' → (PosR (trimL z rows) → Q (.bl (decide (topT (trimL z rows) ≤ botT (trimL z rows)))) H') ∧ (¬ PosR (trimL z rows) → Q (.bl false) H')) ∧ (machB e = false → ∀ H', Same H H' → E (.ref CM) none H')
section
variable {P : Program} {w : World} {K : PySem.W.Frag} {mg : Str → Option Value} {base : Heap} {k : Nat} {t1 t2 t3 : Tok}
theorem ok_worths {CM : Addr} (Z : Zs mg) (c_trimmed : Cal P w K mg base (L2.CX P w) k "trimmed" ["machine"] (spTrimmed CM)) (c_equation : Cal P w K mg base CX0 k "equation" ["rows", "state"] spEqn) (c_solved : Cal P w K mg base CX0 k "solved" ["table"] spSolved) (d : Def K mg "worths" s_worths ["machine"]) : Cal P w K mg base (L2.CX P w) (k + 1) "worths" ["machine"] (spWorths CM) := by
  refine d.okX sc_worths (fun vs H Q E h => ?_) (fun f cdv A outer s H vs Q E hr h => ?_)
  · obtain ⟨_, _, _, rfl, _⟩ := h; rfl
  obtain ⟨Zn, u, e, rfl, hu, se, qr, qm⟩ := h
  refine ⟨_, (pss_cons (ps_set (i := 1) sc_worths.nd rfl (Or.inr rfl) (pe_ix ix_tup (pe_calE (E := E) c_trimmed hr (by rfl) (takes_of rfl rfl rfl rfl) (pa_cons (pv 0) pa_nil)) pe_int (fun _ _ => rfl)))
      (pss_one (ps_ret (pe_cal c_solved hr (by rfl) (pa_cons (pe_lc (own := [("state", 2)]) (g := gName 2) (tt := tYes) rfl sc_worths.nd (pi_range1 (by rfl) Z.range (pa_cons (pe_callB (id := "len") call_len_seq (by rfl) Z.len (by decide +kernel) (pa_cons (pv 1) pa_nil)) pa_nil)) (blkOk_by (N := ["machine", "rows", "state"]) (sc := defScope s_worths) (by decide +kernel)) (fun _ _ _ _ _ => (pg_name (i := 2) sc_worths.nd rfl (Or.inl rfl))) (fun _ _ _ _ _ => pts_nil) (fun _ _ _ _ _ => (pe_cal c_equation hr (by rfl) (pa_cons (pv 1) (pa_cons (pv 2) pa_nil))))) pa_nil))))), ?_⟩
  refine ⟨_, rfl, Zn, u, e, rfl, hu, se, fun z rows e1 ok v H1 s1 a1 => ?_, fun mb H1 s1 => qm mb H1 s1⟩
  subst e1
  obtain ⟨q1, q0⟩ := qr z rows rfl ok
  have okT := trimL_ok ok
  have n1 := okT.n1
  have n30 := okT.n30
  have eB := eqr_abs okT
  obtain ⟨p, pr, us, rfl, ep, epr, ar, _⟩ := At.mach (show At (Trk H) H1 (.tup [.int z, .tup (trimL z rows)]) v from a1)
  generalize trimL z rows = TL at *
  have lu := ar.len
  refine ⟨p, _, 1, .ref pr, rfl, rfl, .of ep, rfl, ?_⟩
  refine ⟨_, rfl, pr, us, rfl, .inr (.of epr), _, rfl, by omega, by omega, ?_⟩
  rw [lu, Int.toNat_natCast]
  refine fun D hD => lc_it (walk_range (lo := 0) (n := TL.length)) (fun j G => Same H1 G ∧ ∃ ads : Nat → Addr, G D = some (.lst (refs ads j)) ∧ ∀ i, i < j → ads i ≠ D ∧ G (ads i) = some (.lst (rowV (eqr TL i) (TL.length + 1)))) ⟨same_new hD _, fun _ => D, upd_same, fun i hi => by omega⟩ (fun _ _ _ _ => trivial) (fun j x G G' hj p2 y => ?_) (fun G p2 => ?_)
  · obtain ⟨sG, ads, eD, eA⟩ := p2
    obtain ⟨rfl, rfl⟩ := y
    refine ⟨rfl, _, rfl, _, rfl, Trk H, pr, us, z, TL, j, (by dsimp only; rw [Int.zero_add]; rfl), sG _ _ epr, ar.same sG, okT, hj, fun N G2 s2 nN eN => ?_⟩
    have nD : N ≠ D := fun h => by rw [h, eD] at nN; cases nN
    refine ⟨_, s2 _ _ eD, by rw [refs_len, sizeLine_eq]; omega, Same.upd_new (sG.trans s2) hD _, fun i => if i = j then N else ads i, by rw [upd_same, refs_succ], fun i hi => ?_⟩
    by_cases e : i = j
    · subst e
      dsimp only
      rw [if_pos rfl]
      exact ⟨nD, by rw [upd_ne nD]; exact eN⟩
    · dsimp only
      rw [if_neg e]
      obtain ⟨h1, h2⟩ := eA i (by omega)
      exact ⟨h1, by rw [upd_ne h1]; exact s2 _ _ h2⟩
  · obtain ⟨sG, ads, eD, eA⟩ := p2
    have s0 := s1.trans sG
    exact ⟨D, ads, eqr TL, TL.length, rfl, eD, fun i hi => (eA i hi).2, n1, n30, eB, fun hp v H' s' a' => q1 hp v H' (s0.trans s') (a'.less fun a t => Trk.same s0 t), fun ⟨m, hm, h0⟩ H' s' => q0 (fun hp => by have := hp m hm; omega) H' (s0.trans s')⟩
theorem ok_total {CM : Addr} (c_worths : Cal P w K mg base (L2.CX P w) k "worths" ["machine"] (spWorths CM)) (d : Def K mg "total" s_total ["machine"]) : Cal P w K mg base (L2.CX P w) (k + 1) "total" ["machine"] (spTotal CM) := by
  refine d.okX sc_total (fun vs H Q E h => ?_) (fun f cdv A outer s H vs Q E hr h => ?_)
  · obtain ⟨_, _, _, rfl, _⟩ := h; rfl
  obtain ⟨Zn, u, e, rfl, hu, se, qr, qm⟩ := h
  refine ⟨_, (pss_cons (ps_set (i := 1) sc_total.nd rfl (Or.inl rfl) (pe_calE (E := E) c_worths hr (by rfl) (takes_of rfl rfl rfl rfl) (pa_cons (pv 0) pa_nil)))
      (pss_one (ps_ret (pe_ifExp (pt_cmpR op_isN (pv 1) pe_non (nomark _)) pe_non (pe_ix ix_tup (pv 1) pe_int (fun _ _ => rfl)))))), ?_⟩
  refine ⟨_, rfl, Zn, u, e, rfl, hu, se, fun z rows e1 ok => ⟨fun hp v H1 s1 a1 => ?_, fun hp H1 s1 => ?_⟩, fun mb H1 s1 => qm mb H1 s1⟩
  · obtain ⟨q1, q0⟩ := qr z rows e1 ok
    have n1 := (trimL_ok ok).n1
    obtain ⟨p, vs, rfl, np, ep, av⟩ := id (show At (Trk H) H1 (wosT (trimL z rows)) v from a1)
    obtain ⟨v0, ev0, h0⟩ := av.at (i := 0) (d := frT (Yk (eqr (trimL z rows)) (trimL z rows).length 0 (trimL z rows).length) (dk (eqr (trimL z rows)) (trimL z rows).length)) (by rw [List.getElem?_map, List.getElem?_range (by omega)]; rfl)
    exact ⟨_, rfl, rfl, _, rfl, iteF ⟨_, rfl, p, _, 0, v0, rfl, rfl, .of ep, atI_nat ev0, q1 hp v0 H1 s1 h0⟩⟩
  · obtain ⟨q1, q0⟩ := qr z rows e1 ok
    exact ⟨_, rfl, rfl, _, rfl, iteT (q0 hp H1 s1)⟩
end
end KL
end
section
namespace KL
variable {r : Nat → Nat → Int}
/-! ### another elimination, row by row, as a law does it -/
structure Own (n c : Nat) (r cur : Nat → Nat → Int) : Prop where
  eqv : ∀ X D, (∀ i, i < n → Lf n X D (cur i) = 0) ↔ (∀ i, i < n → Lf n X D (r i) = 0)
  dia : ∀ j, j < c → cur j j ≠ 0
  zer : ∀ i j, i < n → j < c → i ≠ j → cur i j = 0
theorem Own.start (n : Nat) (r : Nat → Nat → Int) : Own n 0 r r := ⟨fun _ _ => Iff.rfl, fun j h => by omega, fun i j _ h => by omega⟩
/-- rows each times a number -/
theorem Own.light {n c : Nat} {cur cur' : Nat → Nat → Int} (h : Own n c r cur) (k : Nat → Int) (hk : ∀ i, i < n → k i ≠ 0) (e : ∀ i, i < n → ∀ j, j ≤ n → cur i j = k i * cur' i j) (hc : c ≤ n) : Own n c r cur' := by
  have lf : ∀ X D i, i < n → Lf n X D (cur i) = k i * Lf n X D (cur' i) := fun X D i hi => by
    rw [← Lf_mul]
    unfold Lf
    rw [e i hi n (Nat.le_refl _), sumN_congr (g := fun j => (k i * cur' i j) * X j) fun j hj => by rw [e i hi j (by omega)]]
  refine ⟨fun X D => ?_, fun j hj h0 => ?_, fun i j hi hj ne => ?_⟩
  · rw [← h.eqv]
    constructor
    · intro q i hi
      rw [lf X D i hi, q i hi, Int.mul_zero]
    · intro q i hi
      have := q i hi
      rw [lf X D i hi] at this
      rcases Int.mul_eq_zero.mp this with x | x
      · exact absurd x (hk i hi)
      · exact x
  · exact h.dia j hj (by rw [e j (by omega) j (by omega), h0, Int.mul_zero])
  · have := h.zer i j hi hj ne
    rw [e i hi j (by omega)] at this
    rcases Int.mul_eq_zero.mp this with x | x
    · exact absurd x (hk i hi)
    · exact x
/-- two rows exchanged, neither done -/
theorem Own.swap {n c a b : Nat} {cur cur' : Nat → Nat → Int} (h : Own n c r cur) (ha : a < n) (hb : b < n) (hca : c ≤ a) (hcb : c ≤ b) (e : ∀ i, i < n → cur' i = cur (if i = a then b else if i = b then a else i)) : Own n c r cur' := by
  have lt : ∀ i, i < n → (if i = a then b else if i = b then a else i) < n := fun i hi => by split <;> (try split) <;> omega
  refine ⟨fun X D => ?_, fun j hj => ?_, fun i j hi hj ne => ?_⟩
  · rw [← h.eqv]
    constructor
    · intro q i hi
      have := q _ (lt i hi)
      rw [e _ (lt i hi)] at this
      rwa [show (if (if i = a then b else if i = b then a else i) = a then b else if (if i = a then b else if i = b then a else i) = b then a else (if i = a then b else if i = b then a else i)) = i by (repeat' split) <;> omega] at this
    · intro q i hi
      rw [e i hi]
      exact q _ (lt i hi)
  · rw [e j (by omega), if_neg (by omega), if_neg (by omega)]
    exact h.dia j hj
  · rw [e i hi]
    exact h.zer _ j (lt i hi) hj (by (repeat' split) <;> omega)
/-- one row cleared by the row c -/
theorem Own.clear {n c a : Nat} {cur cur' : Nat → Nat → Int} (h : Own n c r cur) (hc : c < n) (ha : a < n) (ne : a ≠ c) (h0 : cur c c ≠ 0) (e1 : ∀ i, i < n → i ≠ a → cur' i = cur i) (e2 : ∀ j, j ≤ n → cur' a j = cur a j * cur c c - cur a c * cur c j) : Own n c r cur' := by
  have lf : ∀ X D, Lf n X D (cur' a) = cur c c * Lf n X D (cur a) + (- cur a c) * Lf n X D (cur c) := fun X D => by
    rw [← Lf_mul, ← Lf_mul, ← Lf_add]
    unfold Lf
    rw [e2 n (Nat.le_refl _), sumN_congr (g := fun j => (cur c c * cur a j + (- cur a c) * cur c j) * X j) fun j hj => by rw [e2 j (by omega)]; grind]
    grind
  refine ⟨fun X D => ?_, fun j hj => ?_, fun i j hi hj nj => ?_⟩
  · rw [← h.eqv]
    constructor
    · intro q i hi
      by_cases ei : i = a
      · subst ei
        have qc := q c hc
        rw [e1 c hc (fun x => ne x.symm)] at qc
        have qa := q i hi
        rw [lf, qc, Int.mul_zero, Int.add_zero] at qa
        rcases Int.mul_eq_zero.mp qa with x | x
        · exact absurd x h0
        · exact x
      · have := q i hi
        rwa [e1 i hi ei] at this
    · intro q i hi
      by_cases ei : i = a
      · subst ei
        rw [lf, q i hi, q c hc]
        grind
      · rw [e1 i hi ei]; exact q i hi
  · by_cases ei : j = a
    · subst ei
      rw [e2 j (by omega), h.zer c j hc hj (by omega), Int.mul_zero, Int.sub_zero]
      intro x
      rcases Int.mul_eq_zero.mp x with y | y
      · exact h.dia j hj y
      · exact h0 y
    · rw [e1 j (by omega) ei]; exact h.dia j hj
  · by_cases ei : i = a
    · subst ei
      rw [e2 j (by omega), h.zer i j hi hj nj, h.zer c j hc hj (by omega)]
      grind
    · rw [e1 i hi ei]; exact h.zer i j hi hj nj
/-- the column c done -/
theorem Own.next {n c : Nat} {cur : Nat → Nat → Int} (h : Own n c r cur) (h0 : cur c c ≠ 0) (z : ∀ i, i < n → i ≠ c → cur i c = 0) : Own n (c + 1) r cur :=
  ⟨h.eqv, fun j hj => by
    by_cases e : j = c
    · subst e; exact h0
    · exact h.dia j (by omega), fun i j hi hj ne => by
    by_cases e : j = c
    · subst e; exact z i hi ne
    · exact h.zer i j hi (by omega) ne⟩
def prodN : Nat → (Nat → Int) → Int
  | 0, _ => 1
  | n + 1, f => prodN n f * f n
theorem prodN_ne {f : Nat → Int} : ∀ {n : Nat}, (∀ i, i < n → f i ≠ 0) → prodN n f ≠ 0
  | 0, _ => by show (1 : Int) ≠ 0; decide
  | n + 1, h => fun e => by
    rcases Int.mul_eq_zero.mp (show prodN n f * f n = 0 from e) with x | x
    · exact prodN_ne (fun i hi => h i (by omega)) x
    · exact h n (by omega) x
theorem prodN_dvd {f : Nat → Int} : ∀ {n i : Nat}, i < n → f i ∣ prodN n f
  | 0, _, h => by omega
  | n + 1, i, h => by
    by_cases e : i = n
    · subst e; exact Int.dvd_mul_left _ _
    · exact Int.dvd_trans (prodN_dvd (show i < n by omega)) (Int.dvd_mul_right _ _)
/-- all columns done: what it solves -/
theorem Own.sol {n : Nat} {cur : Nat → Nat → Int} (h : Own n n r cur) (X : Nat → Int) (D : Int) : (∀ i, i < n → Lf n X D (r i) = 0) ↔ ∀ i, i < n → cur i i * X i = D * cur i n := by
  rw [← h.eqv]
  have lf : ∀ i, i < n → Lf n X D (cur i) = cur i i * X i - D * cur i n := fun i hi => by
    unfold Lf
    rw [sumN_one hi fun j hj ne => by rw [h.zer i j hi hj (fun x => ne x.symm), Int.zero_mul]]
  constructor
  · intro q i hi
    have := q i hi
    rw [lf i hi] at this
    omega
  · intro q i hi
    rw [lf i hi, q i hi]
    omega
/-- all columns done, and each sum from nought on: the pivots of the first elimination are above nought -/
theorem Own.pos {n : Nat} {cur : Nat → Nat → Int} (h : Own n n r cur) (s : Sg n r) (lv : Live n r) (hI : ∀ i t, i < n → t < n → r i (n + 1 + t) = if t = i then 1 else 0) (hs : ∀ i, i < n → 0 ≤ cur i n * cur i i) : ∀ m, m ≤ n → 0 < dk r m := by
  have p0 := prodN_ne (f := fun i => cur i i) (n := n) h.dia
  have pD : 0 < prodN n (fun i => cur i i) * prodN n (fun i => cur i i) := by
    rcases Int.lt_or_gt_of_ne p0 with x | x
    · exact Int.mul_pos_of_neg_of_neg x x
    · exact Int.mul_pos x x
  refine piv_pos s lv hI (X := fun i => (prodN n (fun i => cur i i) * prodN n (fun i => cur i i) / (cur i i * cur i i)) * (cur i n * cur i i)) (D := prodN n (fun i => cur i i) * prodN n (fun i => cur i i)) pD (fun i hi => ?_) ((h.sol _ _).mpr fun i hi => ?_) n (Nat.le_refl _)
  · refine Int.mul_nonneg (Int.ediv_nonneg (by omega) ?_) (hs i hi)
    have := h.dia i hi
    rcases Int.lt_or_gt_of_ne this with x | x
    · exact Int.mul_nonneg_of_nonpos_of_nonpos (by omega) (by omega)
    · exact Int.mul_nonneg (by omega) (by omega)
  · obtain ⟨k, hk⟩ := prodN_dvd (f := fun i => cur i i) (n := n) hi
    have hd := h.dia i hi
    have e : prodN n (fun i => cur i i) * prodN n (fun i => cur i i) / (cur i i * cur i i) = k * k := by
      rw [hk]
      have : cur i i * k * (cur i i * k) = (cur i i * cur i i) * (k * k) := by grind
      rw [this, Int.mul_ediv_cancel_left _ (by
        intro x
        rcases Int.mul_eq_zero.mp x with y | y <;> exact hd y)]
    rw [e, hk]
    grind
/-- .. or it is below nought at one, and they are not -/
theorem Own.neg {n : Nat} {cur : Nat → Nat → Int} (h : Own n n r cur) (s : Sg n r) {i : Nat} (hi : i < n) (hn : cur i n * cur i i < 0) : ¬ ∀ m, m ≤ n → 0 < dk r m := fun hp => by
  have e := (h.sol _ _).mp (fun t ht => the_sol (r := r) (n := n) (fun m hm => by have := hp m hm; omega) ht) i hi
  have y := sol_nonneg s hp hi
  have d := hp n (Nat.le_refl _)
  have e2 : (cur i i * cur i i) * Yk r n i n = dk r n * (cur i n * cur i i) := by
    have e' : cur i i * Yk r n i n = dk r n * cur i n := e
    grind
  have l : 0 ≤ (cur i i * cur i i) * Yk r n i n := by
    refine Int.mul_nonneg ?_ y
    rcases Int.lt_or_gt_of_ne (h.dia i hi) with x | x
    · exact Int.mul_nonneg_of_nonpos_of_nonpos (by omega) (by omega)
    · exact Int.mul_nonneg (by omega) (by omega)
  have g : dk r n * (cur i n * cur i i) < 0 := Int.mul_neg_of_pos_of_neg d hn
  omega
/-- a column without a pivot: they are not -/
theorem Own.none {n c : Nat} {cur : Nat → Nat → Int} (h : Own n c r cur) (hc : c < n) (z : ∀ i, c ≤ i → i < n → cur i c = 0) : ¬ ∀ m, m ≤ n → 0 < dk r m := fun hp => by
  have p0 := prodN_ne (f := fun i => cur i i) (n := c) h.dia
  have hX : ∀ i, i < n → Lf n (fun j => if j = c then prodN c (fun i => cur i i) else if j < c then - (prodN c (fun i => cur i i) / cur j j * cur j c) else 0) 0 (cur i) = 0 := fun i hi => by
    unfold Lf
    rw [Int.zero_mul, Int.sub_zero]
    by_cases lt : i < c
    · -- only the places i and c count
      have : sumN n (fun j => cur i j * (if j = c then prodN c (fun i => cur i i) else if j < c then - (prodN c (fun i => cur i i) / cur j j * cur j c) else 0)) = sumN n (fun j => (if j = i then cur i i * - (prodN c (fun i => cur i i) / cur i i * cur i c) else 0) + (if j = c then cur i c * prodN c (fun i => cur i i) else 0)) := sumN_congr fun j hj => by
        by_cases e1 : j = c
        · subst e1
          rw [if_pos rfl, if_neg (by omega), if_pos rfl, Int.zero_add]
        · rw [if_neg e1, if_neg e1]
          by_cases e2 : j = i
          · subst e2
            rw [if_pos lt, if_pos rfl, Int.add_zero]
          · rw [if_neg e2]
            by_cases e3 : j < c
            · rw [h.zer i j hi e3 (fun x => e2 x.symm)]; grind
            · rw [if_neg e3]; grind
      rw [this, sumN_add, sumN_one hi (fun j hj ne => if_neg ne), sumN_one hc (fun j hj ne => if_neg ne), if_pos rfl, if_pos rfl]
      obtain ⟨k, hk⟩ := prodN_dvd (f := fun i => cur i i) (n := c) lt
      have hd := h.dia i lt
      rw [hk]
      rw [Int.mul_ediv_cancel_left _ hd]
      grind
    · refine sumN_zero fun j hj => ?_
      dsimp only
      by_cases e1 : j = c
      · subst e1
        rw [z i (by omega) hi, Int.zero_mul]
      · rw [if_neg e1]
        by_cases e3 : j < c
        · rw [h.zer i j hi e3 (by omega), Int.zero_mul]
        · rw [if_neg e3, Int.mul_zero]
  have e := one_sol ((h.eqv _ _).mp hX) hc
  have d := hp n (Nat.le_refl _)
  rw [Int.zero_mul, if_pos rfl] at e
  rcases Int.mul_eq_zero.mp e with x | x
  · omega
  · exact p0 x
/-- the same sums by both -/
theorem Own.same {n : Nat} {cur : Nat → Nat → Int} (h : Own n n r cur) (hp : ∀ m, m ≤ n → 0 < dk r m) {i : Nat} (hi : i < n) : cur i i * Yk r n i n = dk r n * cur i n :=
  (h.sol _ _).mp (fun t ht => the_sol (r := r) (n := n) (fun m hm => by have := hp m hm; omega) ht) i hi
end KL
end
section
namespace KL
/-! ### fractions in lowest terms -/
theorem gcd_parts {a b : Int} (hb : b ≠ 0) : ∃ g a' b' : Int, g = ((Nat.gcd a.natAbs b.natAbs : Nat) : Int) ∧ 0 < g ∧ a = g * a' ∧ b = g * b' ∧ Int.gcd a' b' = 1 := by
  have g0 : 0 < Nat.gcd a.natAbs b.natAbs := Nat.gcd_pos_of_pos_right _ (by omega)
  have e : (Nat.gcd a.natAbs b.natAbs) = Int.gcd a b := rfl
  refine ⟨_, a / (Int.gcd a b : Nat), b / (Int.gcd a b : Nat), rfl, by omega, ?_, ?_, ?_⟩
  · rw [e, Int.mul_ediv_cancel' (Int.gcd_dvd_left ..)]
  · rw [e, Int.mul_ediv_cancel' (Int.gcd_dvd_right ..)]
  · exact Int.gcd_ediv_gcd_ediv_gcd (by rw [← e]; exact g0)
theorem dvd_cop {a b c : Int} (h : a ∣ b * c) (g : Int.gcd a b = 1) : a ∣ c := Int.natAbs_dvd_natAbs.mp (Nat.Coprime.dvd_of_dvd_mul_left (k := a.natAbs) (m := b.natAbs) g (by rw [← Int.natAbs_mul]; exact Int.natAbs_dvd_natAbs.mpr h))
/-- two fractions that are alike have the same lowest terms -/
theorem low_eq {a b c e s : Int} (hb : 0 < b) (he : e ≠ 0) (x : e * a = b * c) (hs : s = if e < 0 then -((Nat.gcd c.natAbs e.natAbs : Nat) : Int) else ((Nat.gcd c.natAbs e.natAbs : Nat) : Int)) :
    c / s = a / ((Nat.gcd a.natAbs b.natAbs : Nat) : Int) ∧ e / s = b / ((Nat.gcd a.natAbs b.natAbs : Nat) : Int) ∧ s ≠ 0 := by
  obtain ⟨g, a', b', eg, g0, ea, eb, cp⟩ := gcd_parts (a := a) (b := b) (by omega)
  obtain ⟨h, c', e', eh, h0, ec, ee, cp2⟩ := gcd_parts (a := c) (b := e) he
  rw [← eg]
  rw [← eh] at hs
  obtain ⟨c2, e2, e20, ec2, ee2, cp3, s0⟩ : ∃ c2 e2 : Int, 0 < e2 ∧ c = s * c2 ∧ e = s * e2 ∧ Int.gcd c2 e2 = 1 ∧ s ≠ 0 := by
    by_cases neg : e < 0
    · rw [if_pos neg] at hs
      refine ⟨-c', -e', ?_, by rw [hs, ec]; grind, by rw [hs]; grind, by rw [Int.neg_gcd, Int.gcd_neg]; exact cp2, by omega⟩
      refine Classical.byContradiction fun k => ?_
      have : 0 ≤ h * e' := Int.mul_nonneg (by omega) (by omega)
      omega
    · rw [if_neg neg] at hs
      refine ⟨c', e', ?_, by rw [hs, ec], by rw [hs, ee], cp2, by omega⟩
      refine Classical.byContradiction fun k => ?_
      have : h * e' ≤ 0 := Int.mul_nonpos_of_nonneg_of_nonpos (by omega) (by omega)
      omega
  have b0 : 0 < b' := by
    refine Classical.byContradiction fun k => ?_
    have : g * b' ≤ 0 := Int.mul_nonpos_of_nonneg_of_nonpos (by omega) (by omega)
    omega
  have y : e2 * a' = b' * c2 := by
    have : (s * g) * (e2 * a') = (s * g) * (b' * c2) := by
      have x' : (s * e2) * (g * a') = (g * b') * (s * c2) := by rw [← ee2, ← ea, ← eb, ← ec2]; exact x
      grind
    exact Int.eq_of_mul_eq_mul_left (by
      intro z
      rcases Int.mul_eq_zero.mp z with z | z
      · exact s0 z
      · omega) this
  have d1 : b' ∣ e2 := dvd_cop (a := b') (b := a') (c := e2) ⟨c2, by rw [Int.mul_comm]; exact y⟩ (by rw [Int.gcd_comm]; exact cp)
  have d2 : e2 ∣ b' := dvd_cop (a := e2) (b := c2) (c := b') ⟨a', by rw [Int.mul_comm]; exact y.symm⟩ (by rw [Int.gcd_comm]; exact cp3)
  have eqb : e2 = b' := Int.le_antisymm (Int.le_of_dvd b0 d2) (Int.le_of_dvd e20 d1)
  subst eqb
  have eqa : a' = c2 := Int.eq_of_mul_eq_mul_left (by omega) y
  subst eqa
  refine ⟨?_, ?_, s0⟩
  · rw [ec2, ea, Int.mul_ediv_cancel_left _ s0, Int.mul_ediv_cancel_left _ (by omega)]
  · rw [ee2, eb, Int.mul_ediv_cancel_left _ s0, Int.mul_ediv_cancel_left _ (by omega)]
end KL
end
section
set_option maxHeartbeats 1000000
namespace KL
open PySem PySem.Spec PyProof.Rows L2
/-! ### the equations' signs, and that every state leads to an end -/
theorem pow_pos60 (m : Int) : 0 < (2 : Int) ^ (60 - m).toNat := Int.pow_pos (by decide)
theorem shT_nn (j : Nat) (st : Th) : 0 ≤ shT j st := by
  unfold shT
  split
  · split
    · have := pow_pos60 ‹Int›
      exact Int.le_of_lt (Int.pow_pos (by decide))
    · exact Int.le_refl _
  · exact Int.le_refl _
theorem shS_nn (j : Nat) : ∀ ss : List Th, 0 ≤ shS ss j
  | [] => Int.le_refl _
  | st :: ss => by
    have a := shT_nn j st
    have b := shS_nn j ss
    unfold shS at b ⊢
    rw [List.map_cons, List.sum_cons]
    omega
theorem shS_pos {j : Nat} {st : Th} (h : 0 < shT j st) : ∀ {ss : List Th}, st ∈ ss → 0 < shS ss j
  | [], m => nomatch m
  | x :: ss, m => by
    have a := shT_nn j x
    have b := shS_nn j ss
    have e : shS (x :: ss) j = shT j x + shS ss j := by unfold shS; rw [List.map_cons, List.sum_cons]
    rw [e]
    rcases List.mem_cons.mp m with rfl | m
    · omega
    · have := shS_pos h m
      omega
theorem shE_nn (e : Th) : 0 ≤ shE e := by
  unfold shE
  split
  · exact Int.le_of_lt (Int.pow_pos (by decide))
  · exact Int.le_refl _
theorem eqr_sg (rows : List Th) : Sg rows.length (eqr rows) := by
  constructor
  · intro i j hi hj ne
    unfold eqr
    rw [if_pos hj, if_neg (fun h => ne h.symm)]
    have := shS_nn j (stepsOf ((rows[i]?).getD .non))
    omega
  · intro i j hi hj
    unfold eqr
    rw [if_neg (by omega)]
    split
    · exact shE_nn _
    · split <;> decide
theorem eqr_id (rows : List Th) (i t : Nat) (_ : i < rows.length) (_ : t < rows.length) : eqr rows i (rows.length + 1 + t) = if t = i then 1 else 0 := by
  unfold eqr
  rw [if_neg (by omega), if_neg (by omega)]
  by_cases e : t = i
  · rw [if_pos (by omega), if_pos e]
  · rw [if_neg (by omega), if_neg e]
theorem eqr_live {z : Int} {rows : List Th} (ok : MOk z rows) (hl : ∀ s, s < rows.length → lvE rows s) : Live rows.length (eqr rows) := by
  rintro U ⟨k, hk, uk⟩ h1 h2
  obtain ⟨e, rc, he⟩ := hl k hk
  have all : ∀ b, Rc rows k b → b < rows.length ∧ U b := fun b r => by
    induction r with
    | base m => rw [List.mem_singleton.mp m]; exact ⟨hk, uk⟩
    | step r0 m ih =>
      rename_i a t
      obtain ⟨ha, ua⟩ := ih
      have ht : t < rows.length := ok.rc_lt hk (.step r0 m)
      refine ⟨ht, Classical.byContradiction fun nu => ?_⟩
      have z0 := h1 a ha ua t ht nu
      have nta : t ≠ a := fun h => nu (h ▸ ua)
      obtain ⟨l, mo, hl2, es⟩ := nx_step ok m
      unfold eqr at z0
      rw [if_pos ht, if_neg nta] at z0
      have mem : (Th.tup [.int mo, .int (t : Int)]) ∈ stepsOf ((rows[a]?).getD .non) := by
        unfold stepAt at es
        cases eg : (stepsOf ((rows[a]?).getD .non))[l]? with
        | none => rw [eg] at es; cases es
        | some x =>
          rw [eg] at es
          have es' : x = .tup [.int mo, .int (t : Int)] := es
          rw [← es']
          exact List.mem_of_getElem? eg
      have p := shS_pos (j := t) (st := .tup [.int mo, .int (t : Int)]) (by
        show 0 < (if (t : Int) = (t : Int) then (2 : Int) ^ (60 - mo).toNat else 0)
        rw [if_pos rfl]; exact pow_pos60 mo) mem
      omega
  obtain ⟨hen, ue⟩ := all e rc
  have z0 := h2 e hen ue
  unfold eqr at z0
  rw [if_neg (by omega), if_pos rfl] at z0
  obtain ⟨x, ss, er, c1, c2, c3⟩ := ok.row hen
  unfold isEnd at he
  rw [er] at z0 he
  rcases c1 with rfl | ⟨i, rfl, _⟩
  · exact he rfl
  · have := pow_pos60 i
    have z0' : (2 : Int) ^ (60 - i).toNat = 0 := z0
    omega
theorem shS_none (n j : Nat) : shS (List.replicate n .non) j = 0 := by
  induction n with
  | zero => rfl
  | succ n ih =>
    unfold shS at ih ⊢
    rw [List.replicate_succ, List.map_cons, List.sum_cons, ih]
    rfl
theorem bare_pos (z : Int) : PosR [bareRow z] := fun m hm => by
  have hm' : m ≤ 1 := hm
  rcases Nat.lt_or_ge m 1 with h | h
  · rw [show m = 0 by omega, dk_zero]; decide
  · rw [show m = 0 + 1 by omega, ← Tk_pivot, Tk_zero]
    show 0 < (if 0 < 1 then (if 0 = 0 then (2 : Int) ^ 60 else 0) - shS (List.replicate z.toNat .non) 0 else _)
    rw [if_pos (by decide), if_pos rfl, shS_none]
    decide
end KL
end
section
set_option maxHeartbeats 1000000
namespace KL
open PySem PySem.Spec PyProof.Rows L2
theorem low_abs {a b : Int} {c : Nat} (h : a.natAbs < 2 ^ c) : (a / ((Nat.gcd a.natAbs b.natAbs : Nat) : Int)).natAbs < 2 ^ c :=
  Nat.lt_of_le_of_lt (Int.natAbs_ediv_le_natAbs _ _) h
/-- the least number of bits more -/
def RaiseIs (a b : Int) (k : Nat) : Prop := a ≤ b * 2 ^ k ∧ ∀ j, j < k → b * 2 ^ j < a
def spRaised (CM : Addr) : Sp := fun vs H Q E => ∃ (Z : Zone) (u : V) (e : Th), vs = [u] ∧ At Z H e u ∧ shortT e = true ∧
  (∀ z rows, e = .tup [.int z, .tup rows] → MOk z rows → ∀ H', Same H H' → (PosR (trimL z rows) → ∀ k : Nat, RaiseIs (topT (trimL z rows)) (botT (trimL z rows)) k → Q (.int (k : Nat)) H') ∧ (¬ PosR (trimL z rows) → Q .non H')) ∧ (machB e = false → ∀ H', Same H H' → E (.ref CM) none H')
theorem topT_small {z : Int} {rows : List Th} (ok : MOk z rows) : (topT rows).natAbs < 2 ^ 4000 := by
  refine low_abs ?_
  exact Nat.lt_of_le_of_lt (Dt_abs (N := 31) (M := 31 * 2 ^ 64) (eqr_abs ok) (Nat.le_refl _) _ (by have := ok.n30; omega)) (pow_small (by have := ok.n30; omega))
theorem botT_small {z : Int} {rows : List Th} (ok : MOk z rows) (hp : PosR rows) : (botT rows).natAbs < 2 ^ 4000 ∧ 0 < botT rows := by
  have d := hp rows.length (Nat.le_refl _)
  have b := dk_small (k := rows.length) (eqr_abs ok) (by have := ok.n30; omega)
  refine ⟨Nat.lt_of_le_of_lt (Int.natAbs_ediv_le_natAbs _ _) b, ?_⟩
  have g0 : 0 < Nat.gcd (Yk (eqr rows) rows.length 0 rows.length).natAbs (dk (eqr rows) rows.length).natAbs := Nat.gcd_pos_of_pos_right _ (by omega)
  have g1 : Nat.gcd (Yk (eqr rows) rows.length 0 rows.length).natAbs (dk (eqr rows) rows.length).natAbs ≤ (dk (eqr rows) rows.length).natAbs := Nat.gcd_le_right _ (by omega)
  exact Int.ediv_pos_of_pos_of_dvd d (by omega) (Int.natAbs_dvd_natAbs.mp (by rw [Int.natAbs_natCast]; exact Nat.gcd_dvd_right _ _))
def spHalv : Sp := fun vs H Q _ => ∃ (Z : Zone) (u : V) (a b : Int), vs = [u] ∧ At Z H (.tup [.int a, .int b]) u ∧ a.natAbs < 2 ^ 4000 ∧ b.natAbs < 2 ^ 4000 ∧ 0 < b ∧ ∀ k : Nat, RaiseIs a b k → Q (.int (k : Nat)) H
section
variable {P : Program} {w : World} {K : PySem.W.Frag} {mg : Str → Option Value} {base : Heap} {k : Nat} {t1 t2 t3 : Tok}
end
end KL
end
section
set_option maxHeartbeats 1000000
namespace KL
open PySem PySem.Spec PyProof.Rows L2
def rLcm : List V → Hp → VK → Prop := fun vs H Q => ∃ a b : Int, vs = [.int a, .int b] ∧ a.natAbs < 2 ^ 8900 ∧ b.natAbs < 2 ^ 8900 ∧ Q (.int ((Nat.lcm a.natAbs b.natAbs : Nat) : Int)) H
theorem cr_lcm {X : Cx} : CallR X (.builtin "math.lcm") rLcm := by
  intro pins s σ H vs us Q I r h
  obtain ⟨a, b, rfl, ha, hb, q⟩ := h
  obtain ⟨t, u, rfl⟩ := Vals.int2 r
  have l1 : a.natAbs.log2 < 8900 := PySem.Flt.log2_lt_of (by decide) ha
  have l2 : b.natAbs.log2 < 8900 := PySem.Flt.log2_lt_of (by decide) hb
  have h1 : (max 1 a.natAbs).log2 < 8900 := by
    rcases Nat.le_total 1 a.natAbs with h | h
    · rw [Nat.max_eq_right h]; exact l1
    · rw [Nat.max_eq_left h]; decide
  have h2 : (max a.natAbs b.natAbs).log2 < 8900 := by
    rcases Nat.le_total a.natAbs b.natAbs with h | h
    · rw [Nat.max_eq_right h]; exact l2
    · rw [Nat.max_eq_left h]; exact l1
  have e1 : Nat.lcm 1 a.natAbs = a.natAbs := PySem.W.mc_lcm_one _
  have hsz : ((((Nat.lcm 1 a.natAbs).lcm b.natAbs : Nat) : Int)).natAbs.log2 < bitsLine := by
    rw [Int.natAbs_natCast, e1]
    refine PySem.W.mc_size (k := 300) (Nat.le_trans (PySem.W.mc_lcm_le _ _) (Nat.le_trans (Nat.mul_le_mul (Nat.le_of_lt ha) (Nat.le_of_lt hb)) ?_)) (by decide)
    rw [← Nat.pow_add]
    exact Nat.pow_le_pow_right (by decide) (by decide)
  rw [← e1] at q
  exact call_function_meets PySem.W.MGF.kind_lcm PySem.W.MGF.plain_lcm PySem.W.MGF.entry_lcm (PySem.W.MGF.args_lcm _ _) (PySem.W.mg_run_lcm a t b u (by omega) (by omega) hsz).meets ⟨.int _, H, I.tok _, ⟨_, rfl⟩, q⟩
def fracB : Th → Bool
  | .tup [.int a, .int b] => decide (0 ≤ a) && (decide (1 ≤ b) && decide (Nat.gcd a.natAbs b.natAbs = 1))
  | _ => false
def topI : Th → Int
  | .tup [.int a, .int _] => a
  | _ => 0
def botI : Th → Int
  | .tup [.int _, .int b] => b
  | _ => 1
theorem fracB_is {d : Th} (h : fracB d = true) : d = .tup [.int (topI d), .int (botI d)] ∧ 0 ≤ topI d ∧ 1 ≤ botI d ∧ Nat.gcd (topI d).natAbs (botI d).natAbs = 1 := by
  unfold fracB at h
  split at h
  · rw [Bool.and_eq_true, Bool.and_eq_true, decide_eq_true_eq, decide_eq_true_eq, decide_eq_true_eq] at h
    exact ⟨rfl, h.1, h.2.1, h.2.2⟩
  · cases h
theorem fracB_not {d : Th} (h : isPair d = false) : fracB d = false := by
  cases d with
  | tup xs => match xs, h with
    | [], _ => rfl
    | [a], _ => cases a <;> rfl
    | [_, _], h => cases h
    | a :: b :: _ :: _, _ => cases a <;> cases b <;> rfl
  | _ => rfl
theorem fracB_num {a b : Th} (h : (!(isNum a && isNum b)) = true) : fracB (.tup [a, b]) = false := by
  have h' := not_true h
  cases a <;> cases b <;> first | rfl | cases h'
/-- the least common multiple of the first i bottoms -/
def lcmN (fs : List Th) : Nat → Nat
  | 0 => 1
  | i + 1 => Nat.lcm (lcmN fs i) (botI ((fs[i]?).getD .non)).natAbs
def tpI (fs : List Th) (i : Nat) : Int := topI ((fs[i]?).getD .non) * ((lcmN fs fs.length : Nat) / botI ((fs[i]?).getD .non))
theorem botI_nz (d : Th) (h : fracB d = true) : 0 < (botI d).natAbs := by have := (fracB_is h).2.2.1; omega
theorem lcmN_pos {fs : List Th} (h : ∀ f ∈ fs, fracB f = true) : ∀ i, i ≤ fs.length → 0 < lcmN fs i
  | 0, _ => Nat.one_pos
  | i + 1, hi => Nat.lcm_pos (lcmN_pos h i (by omega)) (by
    rw [List.getElem?_eq_getElem (by omega)]
    exact botI_nz _ (h _ (List.getElem_mem _)))
theorem lcmN_dvd {fs : List Th} {D : Nat} (h : ∀ f ∈ fs, (botI f).natAbs ∣ D) : ∀ i, i ≤ fs.length → lcmN fs i ∣ D
  | 0, _ => Nat.one_dvd _
  | i + 1, hi => Nat.lcm_dvd (lcmN_dvd h i (by omega)) (by
    rw [List.getElem?_eq_getElem (by omega)]
    exact h _ (List.getElem_mem _))
theorem bot_dvd {fs : List Th} {j : Nat} : ∀ {i : Nat}, j < i → (botI ((fs[j]?).getD .non)).natAbs ∣ lcmN fs i
  | 0, h => by omega
  | i + 1, h => by
    by_cases e : j = i
    · subst e; exact Nat.dvd_lcm_right _ _
    · exact Nat.dvd_trans (bot_dvd (show j < i by omega)) (Nat.dvd_lcm_left _ _)
def Bal (rows fs : List Th) : Prop := ∀ s, s < rows.length → Lf rows.length (tpI fs) ((lcmN fs fs.length : Nat) : Int) (eqr rows s) = 0
def spBal : Sp := fun vs H Q _ => ∃ (Z Z2 : Zone) (pr pt : Addr) (us ts : List V) (z : Int) (rows fs : List Th), vs = [.ref pr, .ref pt] ∧ H pr = some (.tup us) ∧ AtAll Z H rows us ∧ MOk z rows ∧ H pt = some (.tup ts) ∧ AtAll Z2 H fs ts ∧ fs.length = rows.length ∧
  (∀ f ∈ fs, fracB f = true ∧ (topI f).natAbs < 2 ^ 4100) ∧ (∃ D : Nat, 0 < D ∧ D < 2 ^ 8900 ∧ ∀ f ∈ fs, (botI f).natAbs ∣ D) ∧ ∀ H', Same H H' → (Bal rows fs → Q (.bl true) H') ∧ (¬ Bal rows fs → Q (.bl false) H')
theorem sumN_ints (f : Nat → Int) : ∀ n, (((List.range n).map f).sum) = sumN n f
  | 0 => rfl
  | n + 1 => by
    rw [List.range_succ, List.map_append, List.sum_append, sumN_ints f n]
    show sumN n f + (f n + 0) = sumN n f + f n
    omega
section
variable {P : Program} {w : World} {K : PySem.W.Frag} {mg : Str → Option Value} {base : Heap} {k : Nat} {t1 t2 t3 : Tok}
end
end KL
end
section
namespace KL
variable {r : Nat → Nat → Int}
/-! ### the law's own rows are those of the first elimination, lightened: so they stay small -/
def Prim (n : Nat) (f : Nat → Int) : Prop := (∀ j, j ≤ n → f j = 0) ∨ ∀ d : Int, (∀ j, j ≤ n → d ∣ f j) → d ∣ 1
theorem prop_le {n : Nat} {f t : Nat → Int} {a b : Int} (ha : a ≠ 0) (hb : b ≠ 0) (e : ∀ j, j ≤ n → a * f j = b * t j) (p : Prim n f) {j : Nat} (hj : j ≤ n) : (f j).natAbs ≤ (t j).natAbs := by
  rcases p with p | p
  · rw [p j hj]; exact Nat.zero_le _
  obtain ⟨g, a', b', _, g0, ea, eb, cp⟩ := gcd_parts (a := a) (b := b) hb
  have e' : ∀ j, j ≤ n → a' * f j = b' * t j := fun j hj => by
    have := e j hj
    rw [ea, eb] at this
    refine Int.eq_of_mul_eq_mul_left (a := g) (by omega) ?_
    grind
  have d := p b' fun j hj => dvd_cop (a := b') (b := a') (c := f j) ⟨t j, e' j hj⟩ (by rw [Int.gcd_comm]; exact cp)
  have b1 : b'.natAbs = 1 := Nat.dvd_one.mp (Int.natAbs_dvd_natAbs.mpr d)
  have a0 : 1 ≤ a'.natAbs := by
    have : a' ≠ 0 := fun z => ha (by rw [ea, z, Int.mul_zero])
    omega
  have x := congrArg Int.natAbs (e' j hj)
  rw [Int.natAbs_mul, Int.natAbs_mul, b1, Nat.one_mul] at x
  have := Nat.mul_le_mul_right (f j).natAbs a0
  omega
/-- the rows, exchanged somehow, proportional row by row -/
structure Like (n c : Nat) (r' cur : Nat → Nat → Int) : Prop where
  ne : ∀ m, m ≤ c → dk r' m ≠ 0
  row : ∀ i, i < n → ∃ a b : Int, a ≠ 0 ∧ b ≠ 0 ∧ ∀ j, j ≤ n → a * cur i j = b * Tk r' c i j
theorem Like.le {n c : Nat} {r' cur : Nat → Nat → Int} (h : Like n c r' cur) {i j : Nat} (hi : i < n) (hj : j ≤ n) (p : Prim n (cur i)) : (cur i j).natAbs ≤ (Tk r' c i j).natAbs := by
  obtain ⟨a, b, ha, hb, e⟩ := h.row i hi
  exact prop_le ha hb e p hj
theorem Like.light {n c : Nat} {r' cur cur' : Nat → Nat → Int} (h : Like n c r' cur) (k : Nat → Int) (hk : ∀ i, i < n → k i ≠ 0) (e : ∀ i, i < n → ∀ j, j ≤ n → cur i j = k i * cur' i j) : Like n c r' cur' :=
  ⟨h.ne, fun i hi => by
    obtain ⟨a, b, ha, hb, q⟩ := h.row i hi
    exact ⟨a * k i, b, Int.mul_ne_zero ha (hk i hi), hb, fun j hj => by rw [← q j hj, e i hi j hj, Int.mul_assoc]⟩⟩
theorem Like.start {n : Nat} (r : Nat → Nat → Int) : Like n 0 r r :=
  ⟨fun m hm => by rw [show m = 0 by omega, dk_zero]; decide, fun i hi => ⟨1, 1, by decide, by decide, fun j hj => by rw [Tk_zero]⟩⟩
/-- what is told of the first c rows is the same when later rows are exchanged -/
theorem Dt_rows {r s : Nat → Nat → Int} : ∀ {n : Nat} (c : Nat → Nat), (∀ t, t < n → r t = s t) → Dt r n c = Dt s n c
  | 0, _, _ => rfl
  | n + 1, c, h => by
    rw [Dt, Dt]
    refine sumN_congr fun p hp => ?_
    rw [h n (by omega), Dt_rows _ fun t ht => h t (by omega)]
theorem Gk_rows {r s : Nat → Nat → Int} {k : Nat} (h : ∀ t, t < k → r t = s t) (x : Nat → Int) (j : Nat) : Gk r k x j = Gk s k x j := by
  unfold Gk dk Yk
  rw [Dt_rows _ h, sumN_congr fun q hq => by rw [Dt_rows _ h]]
def exch (a b i : Nat) : Nat := if i = a then b else if i = b then a else i
theorem Tk_exch {c a i : Nat} (ha : c ≤ a) : Tk (fun i => r (exch c a i)) c i = Tk r c (exch c a i) := by
  have low : ∀ t, t < c → (fun i => r (exch c a i)) t = r t := fun t ht => by
    show r (exch c a t) = r t
    unfold exch
    rw [if_neg (by omega), if_neg (by omega)]
  funext j
  unfold Tk
  by_cases lt : i < c
  · rw [if_pos lt, if_pos (by unfold exch; rw [if_neg (by omega), if_neg (by omega)]; exact lt)]
    unfold Yk
    rw [Dt_rows _ low, show exch c a i = i by unfold exch; rw [if_neg (by omega), if_neg (by omega)]]
  · rw [if_neg lt, if_neg (by unfold exch; (repeat' split) <;> omega), Gk_rows low]
theorem Like.swap {n c a : Nat} {r' cur cur' : Nat → Nat → Int} (h : Like n c r' cur) (hc : c < n) (ha : a < n) (hca : c ≤ a) (e : ∀ i, i < n → cur' i = cur (exch c a i)) : Like n c (fun i => r' (exch c a i)) cur' := by
  have low : ∀ m, m ≤ c → ∀ t, t < m → (fun i => r' (exch c a i)) t = r' t := fun m hm t ht => by
    show r' (exch c a t) = r' t
    unfold exch
    rw [if_neg (by omega), if_neg (by omega)]
  refine ⟨fun m hm => ?_, fun i hi => ?_⟩
  · unfold dk
    rw [Dt_rows _ (low m hm)]
    exact h.ne m hm
  · obtain ⟨x, y, hx, hy, q⟩ := h.row (exch c a i) (by unfold exch; (repeat' split) <;> omega)
    exact ⟨x, y, hx, hy, fun j hj => by rw [e i hi, Tk_exch hca]; exact q j hj⟩
/-- the column c done: each other row cleared, or left where its item is nought -/
theorem Like.next {n c : Nat} {r' cur cur' : Nat → Nat → Int} (h : Like n c r' cur) (hc : c < n) (h0 : cur c c ≠ 0) (ec : cur' c = cur c)
    (e : ∀ i, i < n → i ≠ c → (cur i c = 0 ∧ cur' i = cur i) ∨ ∃ k : Int, k ≠ 0 ∧ ∀ j, j ≤ n → cur i j * cur c c - cur i c * cur c j = k * cur' i j) : Like n (c + 1) r' cur' := by
  obtain ⟨x, y, hx, hy, q⟩ := h.row c hc
  have p0 : dk r' (c + 1) ≠ 0 := fun z => by
    have := q c (by omega)
    rw [Tk_pivot, z, Int.mul_zero] at this
    rcases Int.mul_eq_zero.mp this with w | w
    · exact hx w
    · exact h0 w
  have hne : ∀ m, m ≤ c + 1 → dk r' m ≠ 0 := fun m hm => by
    by_cases em : m = c + 1
    · subst em; exact p0
    · exact h.ne m (by omega)
  refine ⟨hne, fun i hi => ?_⟩
  by_cases ei : i = c
  · subst ei
    exact ⟨x, y, hx, hy, fun j hj => by rw [ec, Tk_same]; exact q j hj⟩
  · obtain ⟨a, b, ha, hb, s⟩ := h.row i hi
    have d0 := h.ne c (Nat.le_refl _)
    have st : ∀ j, Tk r' c c c * Tk r' c i j - Tk r' c i c * Tk r' c c j = dk r' c * Tk r' (c + 1) i j := fun j => Tk_step hne ei j
    rcases e i hi ei with ⟨z, e1⟩ | ⟨k, hk, e1⟩
    · have tz : Tk r' c i c = 0 := by
        have := s c (by omega)
        rw [z, Int.mul_zero] at this
        rcases Int.mul_eq_zero.mp this.symm with w | w
        · exact absurd w hb
        · exact w
      refine ⟨a * Tk r' c c c, b * dk r' c, Int.mul_ne_zero ha (by rw [Tk_pivot]; exact p0), Int.mul_ne_zero hb d0, fun j hj => ?_⟩
      have u := st j
      rw [tz, Int.zero_mul, Int.sub_zero] at u
      have v := s j hj
      rw [e1]
      grind
    · refine ⟨a * x * k, b * y * dk r' c, Int.mul_ne_zero (Int.mul_ne_zero ha hx) hk, Int.mul_ne_zero (Int.mul_ne_zero hb hy) d0, fun j hj => ?_⟩
      have u := st j
      have v := s j hj
      have v2 := s c (by omega)
      have w1 := q c (by omega)
      have w2 := q j hj
      have m := e1 j hj
      have : a * x * k * cur' i j = (a * cur i j) * (x * cur c c) - (a * cur i c) * (x * cur c j) := by
        have : a * x * k * cur' i j = a * x * (k * cur' i j) := by grind
        rw [this, ← m]; grind
      rw [this, v, w1, v2, w2]
      have : b * Tk r' c i j * (y * Tk r' c c c) - b * Tk r' c i c * (y * Tk r' c c j) = b * y * (Tk r' c c c * Tk r' c i j - Tk r' c i c * Tk r' c c j) := by grind
      rw [this, u]; grind
end KL
end
section
set_option maxHeartbeats 1000000
namespace KL
open PySem PySem.Spec PyProof.Rows L2
abbrev sc_law_powerN : List Str := ["_law_many", "_law_found", "_law_turn"]
abbrev s_law_power : Stmt := topS 38
theorem sc_law_power : FnScope ["_law_many", "_law_found", "_law_turn"] ["_law_many"] (defScope s_law_power) := ⟨rfl, rfl, rfl, by decide +kernel, rfl, by decide +kernel, by decide +kernel⟩
abbrev sc_law_gcdN : List Str := ["_law_one", "_law_other"]
abbrev s_law_gcd : Stmt := topS 42
theorem sc_law_gcd : FnScope ["_law_one", "_law_other"] ["_law_one", "_law_other"] (defScope s_law_gcd) := ⟨rfl, rfl, rfl, by decide +kernel, rfl, by decide +kernel, by decide +kernel⟩
abbrev sc_law_reducedN : List Str := ["_law_top", "_law_bottom", "_law_shared"]
abbrev s_law_reduced : Stmt := topS 43
theorem sc_law_reduced : FnScope ["_law_top", "_law_bottom", "_law_shared"] ["_law_top", "_law_bottom"] (defScope s_law_reduced) := ⟨rfl, rfl, rfl, by decide +kernel, rfl, by decide +kernel, by decide +kernel⟩
abbrev sc_law_lighterN : List Str := ["_law_row", "_law_shared", "_law_one"]
abbrev s_law_lighter : Stmt := topS 45
theorem sc_law_lighter : FnScope ["_law_row", "_law_shared", "_law_one"] ["_law_row"] (defScope s_law_lighter) := ⟨rfl, rfl, rfl, by decide +kernel, rfl, by decide +kernel, by decide +kernel⟩
structure Ga (mg : Str → Option Value) : Prop where
  abs : mg "abs" = none
def CDivX (_ j : Int) : Prop := j ≠ 0 ∧ j.natAbs.log2 < 9000
section
variable {X : Cx}
theorem op_fdivX : OpR X (binaryOp .FloorDiv) (rI CDivX fun i j => .int (i.fdiv j)) := opI fun i j _ _ _ _ _ hc q => floordiv_int hc.1 q (.inl (PyProof.noPylong_of_log2 hc.2))
end
theorem cdivx {i j : Int} (h : j ≠ 0) (hb : j.natAbs < 2 ^ 8900) : CDivX i j := ⟨h, Nat.lt_of_lt_of_le (PySem.Flt.log2_lt_of (by decide) hb) (by decide)⟩
def spPower : Sp := fun vs H Q _ => ∃ n : Nat, vs = [.int (n : Nat)] ∧ n ≤ 100000 ∧ Q (.int (2 ^ n)) H
def spGcd : Sp := fun vs H Q _ => ∃ a b : Int, vs = [.int a, .int b] ∧ ∀ H', Same H H' → Q (.int ((Nat.gcd a.natAbs b.natAbs : Nat) : Int)) H'
def sgcd (a b : Int) : Int := if b < 0 then -((Nat.gcd a.natAbs b.natAbs : Nat) : Int) else ((Nat.gcd a.natAbs b.natAbs : Nat) : Int)
def spReduced : Sp := fun vs H Q _ => ∃ a b : Int, vs = [.int a, .int b] ∧ b ≠ 0 ∧ b.natAbs < 2 ^ 8900 ∧ ∀ p H', Same H H' → H p = none → H' p = some (.tup [.int (a / sgcd a b), .int (b / sgcd a b)]) → Q (.ref p) H'
def gcN (f : Nat → Int) : Nat → Nat
  | 0 => 0
  | n + 1 => Nat.gcd (gcN f n) (f n).natAbs
def spLighter : Sp := fun vs H Q _ => ∃ (a : Addr) (f : Nat → Int) (n : Nat), vs = [.ref a] ∧ H a = some (.lst (rowV f n)) ∧ n ≤ 100 ∧ (∀ j, j < n → (f j).natAbs < 2 ^ 8900) ∧
  (gcN f n = 0 → ∀ H', Same H H' → Q (.ref a) H') ∧ (gcN f n ≠ 0 → ∀ N H', Same H H' → H N = none → H' N = some (.lst (rowV (fun j => f j / (gcN f n : Nat)) n)) → Q (.ref N) H')
theorem ndvd {n : Nat} {i : Int} (h : n ∣ i.natAbs) : (n : Int) ∣ i := Int.natAbs_dvd_natAbs.mp (by rw [Int.natAbs_natCast]; exact h)
theorem gcN_dvd {f : Nat → Int} : ∀ {n j : Nat}, j < n → ((gcN f n : Nat) : Int) ∣ f j
  | 0, _, h => by omega
  | n + 1, j, h => by
    by_cases e : j = n
    · subst e
      exact ndvd (Nat.gcd_dvd_right _ _)
    · exact Int.dvd_trans (Int.natCast_dvd_natCast.mpr (Nat.gcd_dvd_left _ _)) (gcN_dvd (show j < n by omega))
theorem gcN_le {f : Nat → Int} {b : Nat} : ∀ {n : Nat}, (∀ j, j < n → (f j).natAbs < b) → 0 < b → gcN f n < b
  | 0, _, h => h
  | n + 1, h, hb => by
    have a := gcN_le (n := n) (fun j hj => h j (by omega)) hb
    have c := h n (by omega)
    show Nat.gcd (gcN f n) (f n).natAbs < b
    rcases Nat.eq_zero_or_pos (gcN f n) with z | z
    · rw [z, Nat.gcd_zero_left]; exact c
    · exact Nat.lt_of_le_of_lt (Nat.gcd_le_left _ z) a
section
variable {P : Program} {w : World} {K : PySem.W.Frag} {mg : Str → Option Value} {base : Heap} {k : Nat} {t1 t2 t3 : Tok}
theorem ok_law_power (Z : Zs mg) (d : Def K mg "_law_power" s_law_power ["_law_many"]) : Cal P w K mg base CX0 (k + 1) "_law_power" ["_law_many"] spPower := by
  refine d.ok sc_law_power (fun vs H Q E h => ?_) (fun f cdv A outer s H vs Q E hr h => ?_)
  · obtain ⟨_, rfl, _⟩ := h; rfl
  obtain ⟨n, rfl, hn, q⟩ := h
  refine ⟨_, (pss_cons (ps_set (i := 1) sc_law_power.nd rfl (Or.inl rfl) pe_int)
      (pss_cons (ps_for PassesOwn.never rfl (pi_range1 (by rfl) Z.range (pa_cons (pv 0) pa_nil)) (pg_name (i := 2) sc_law_power.nd rfl (Or.inl rfl)) (pss_one (ps_set (i := 1) sc_law_power.nd rfl (Or.inl rfl) (pe_op op_mul (pv 1) pe_int))))
      (pss_one (ps_ret (pv 1))))), ?_⟩
  refine ⟨_, rfl, _, rfl, by omega, by omega, ?_⟩
  rw [Int.toNat_natCast]
  refine for_range (lo := 0) (n := n) (fun i σ' H' => H' = H ∧ ∃ y : Option V, σ' = [some (.int (n : Nat)), some (.int (2 ^ i)), y]) ⟨rfl, none, rfl⟩ (fun i σ' H' hi hh => ?_) (fun σ' H' hh => ?_)
  · obtain ⟨rfl, y, rfl⟩ := hh
    refine ⟨_, rfl, _, _, rfl, rfl, .inr ⟨by decide, by decide⟩, rfl, some (.int (0 + (i : Nat))), ?_⟩
    rw [Int.pow_succ]; rfl
  · obtain ⟨rfl, y, rfl⟩ := hh
    exact ⟨_, rfl, q⟩
theorem ok_law_gcd (G : Ga mg) (Z : Zs mg) (d : Def K mg "_law_gcd" s_law_gcd ["_law_one", "_law_other"]) : Cal P w K mg base CX0 (k + 1) "_law_gcd" ["_law_one", "_law_other"] spGcd := by
  refine d.ok sc_law_gcd (fun vs H Q E h => ?_) (fun f cdv A outer s H vs Q E hr h => ?_)
  · obtain ⟨_, _, rfl, _⟩ := h; rfl
  obtain ⟨a, b, rfl, q⟩ := h
  refine ⟨_, (pss_cons (ps_par (i := 0) (j := 1) rfl sc_law_gcd.nd rfl rfl (by decide) rfl rfl (pa_cons (pe_callB (id := "abs") call_abs (by rfl) G.abs (by decide +kernel) (pa_cons (pv 0) pa_nil)) (pa_cons (pe_callB (id := "abs") call_abs (by rfl) G.abs (by decide +kernel) (pa_cons (pv 1) pa_nil)) pa_nil)) (by rfl))
      (pss_cons (ps_while PassesOwn.never (pt_cmpR op_gt (pv 1) pe_int (nomark _)) (pss_one (ps_par (i := 0) (j := 1) rfl sc_law_gcd.nd rfl rfl (by decide) rfl rfl (pa_cons (pv 1) (pa_cons (pe_op op_mod (pe_callTy (T := "int") call_int1 (by rfl) Z.int (by decide +kernel) (pa_cons (pv 0) pa_nil)) (pv 1)) pa_nil)) (by rfl))))
      (pss_one (ps_ret (pv 0))))), ?_⟩
  refine ⟨_, rfl, _, rfl, _, rfl, _, rfl, _, _, rfl, ?_⟩
  rw [show (if a < 0 then -a else a) = ((a.natAbs : Nat) : Int) by split <;> omega, show (if b < 0 then -b else b) = ((b.natAbs : Nat) : Int) by split <;> omega]
  refine ⟨fun m σ' H' => ∃ x : Nat, H' = H ∧ σ' = [some (.int (x : Nat)), some (.int (m : Nat))] ∧ Nat.gcd x m = Nat.gcd a.natAbs b.natAbs, ⟨b.natAbs, a.natAbs, rfl, rfl, rfl⟩, fun m σ' H' hh => ?_⟩
  obtain ⟨x, rfl, rfl, e⟩ := hh
  refine ⟨_, rfl, _, _, rfl, rfl, _, rfl, ?_⟩
  by_cases h0 : (0 : Int) < (m : Int)
  · rw [decide_eq_true h0]
    refine iteT ?_
    refine ⟨fun σ' H'' => ∃ m', m' < m ∧ ∃ x : Nat, H'' = H' ∧ σ' = [some (.int (x : Nat)), some (.int (m' : Nat))] ∧ Nat.gcd x m' = Nat.gcd a.natAbs b.natAbs, fun _ _ h => h, ?_⟩
    refine ⟨_, rfl, _, rfl, .inl ⟨_, rfl, _, rfl, _, _, rfl, rfl, h0, _, _, rfl, ?_⟩⟩
    refine ⟨x % m, Nat.mod_lt _ (by omega), m, rfl, rfl, ?_⟩
    rw [← e, Nat.gcd_comm x m, Nat.gcd_rec m x, Nat.gcd_comm]
  · rw [decide_eq_false h0]
    refine iteF ⟨_, rfl, ?_⟩
    have m0 : m = 0 := by omega
    subst m0
    rw [Nat.gcd_zero_right] at e
    rw [e]
    exact q H' (Same.refl _)
theorem ok_law_reduced (c_law_gcd : Cal P w K mg base CX0 k "_law_gcd" ["_law_one", "_law_other"] spGcd) (d : Def K mg "_law_reduced" s_law_reduced ["_law_top", "_law_bottom"]) : Cal P w K mg base CX0 (k + 1) "_law_reduced" ["_law_top", "_law_bottom"] spReduced := by
  refine d.ok sc_law_reduced (fun vs H Q E h => ?_) (fun f cdv A outer s H vs Q E hr h => ?_)
  · obtain ⟨_, _, rfl, _⟩ := h; rfl
  obtain ⟨a, b, rfl, b0, bb, q⟩ := h
  refine ⟨_, (pss_cons (ps_set (i := 2) sc_law_reduced.nd rfl (Or.inl rfl) (pe_cal c_law_gcd hr (by rfl) (pa_cons (pv 0) (pa_cons (pv 1) pa_nil))))
      (pss_cons (ps_if (pt_cmpR op_lt (pv 1) pe_int (nomark _)) (pss_one (ps_set (i := 2) sc_law_reduced.nd rfl (Or.inl rfl) (pe_un un_neg (pv 2)))) pss_nil)
      (pss_one (ps_ret (pe_tup (pa_cons (pe_op op_fdivX (pv 0) (pv 2)) (pa_cons (pe_op op_fdivX (pv 1) (pv 2)) pa_nil))))))), ?_⟩
  refine ⟨_, rfl, _, rfl, a, b, rfl, fun H1 s1 => ?_⟩
  have g0 : 0 < Nat.gcd a.natAbs b.natAbs := Nat.gcd_pos_of_pos_right _ (by omega)
  have g1 : Nat.gcd a.natAbs b.natAbs ≤ b.natAbs := Nat.gcd_le_right _ (by omega)
  have da : ((Nat.gcd a.natAbs b.natAbs : Nat) : Int) ∣ a := ndvd (Nat.gcd_dvd_left _ _)
  have db : ((Nat.gcd a.natAbs b.natAbs : Nat) : Int) ∣ b := ndvd (Nat.gcd_dvd_right _ _)
  have hs : sgcd a b ≠ 0 ∧ (sgcd a b).natAbs < 2 ^ 8900 ∧ sgcd a b ∣ a ∧ sgcd a b ∣ b := by
    unfold sgcd
    split
    · exact ⟨by omega, by omega, Int.neg_dvd.mpr da, Int.neg_dvd.mpr db⟩
    · exact ⟨by omega, by omega, da, db⟩
  obtain ⟨h1, h2, h3, h4⟩ := hs
  have fin : ∀ p, H1 p = none → Q (.ref p) (upd H1 p (.tup [.int (a.fdiv (sgcd a b)), .int (b.fdiv (sgcd a b))])) := fun p hp => by
    refine q p _ (s1.trans (same_new hp _)) (Same.free s1 hp) ?_
    rw [upd_same, Int.fdiv_eq_ediv_of_dvd h3, Int.fdiv_eq_ediv_of_dvd h4]
  by_cases hb : b < 0
  · have e : sgcd a b = -((Nat.gcd a.natAbs b.natAbs : Nat) : Int) := by unfold sgcd; rw [if_pos hb]
    refine ⟨_, rfl, _, _, rfl, rfl, _, rfl, ?_⟩
    rw [decide_eq_true hb]
    rw [e] at h1 h2 fin
    exact iteT ⟨_, rfl, _, rfl, _, rfl, _, rfl, _, _, rfl, rfl, cdivx h1 h2, _, rfl, _, rfl, _, _, rfl, rfl, cdivx h1 h2, (by show 2 ≤ sizeLine; decide), fin⟩
  · have e : sgcd a b = ((Nat.gcd a.natAbs b.natAbs : Nat) : Int) := by unfold sgcd; rw [if_neg hb]
    refine ⟨_, rfl, _, _, rfl, rfl, _, rfl, ?_⟩
    rw [decide_eq_false hb]
    rw [e] at h1 h2 fin
    exact iteF ⟨_, rfl, _, rfl, _, _, rfl, rfl, cdivx h1 h2, _, rfl, _, rfl, _, _, rfl, rfl, cdivx h1 h2, (by show 2 ≤ sizeLine; decide), fin⟩
theorem ok_law_lighter (c_law_gcd : Cal P w K mg base CX0 k "_law_gcd" ["_law_one", "_law_other"] spGcd) (d : Def K mg "_law_lighter" s_law_lighter ["_law_row"]) : Cal P w K mg base CX0 (k + 1) "_law_lighter" ["_law_row"] spLighter := by
  refine d.ok sc_law_lighter (fun vs H Q E h => ?_) (fun fa cdv A outer s H vs Q E hr h => ?_)
  · obtain ⟨_, _, _, rfl, _⟩ := h; rfl
  obtain ⟨a, f, n, rfl, ea, hn, hf, q0, q1⟩ := h
  refine ⟨_, (pss_cons (ps_set (i := 1) sc_law_lighter.nd rfl (Or.inr rfl) pe_int)
      (pss_cons (ps_for PassesOwn.never rfl (pi_list (pv 0)) (pg_name (i := 2) sc_law_lighter.nd rfl (Or.inl rfl)) (pss_one (ps_set (i := 1) sc_law_lighter.nd rfl (Or.inr rfl) (pe_cal c_law_gcd hr (by rfl) (pa_cons (pv 1) (pa_cons (pv 2) pa_nil))))))
      (pss_one (ps_ret (pe_ifExp (pt_cmpR op_eq (pv 1) pe_int (nomark _)) (pv 0) (pe_lc (own := [("_law_one", 2)]) (g := gName 2) (tt := tYes) rfl sc_law_lighter.nd (pi_list (pv 0)) (blkOk_by (N := ["_law_row", "_law_shared", "_law_one"]) (sc := defScope s_law_lighter) (by decide +kernel)) (fun _ _ _ _ _ => (pg_name (i := 2) sc_law_lighter.nd rfl (Or.inl rfl))) (fun _ _ _ _ _ => pts_nil) (fun _ _ _ _ _ => (pe_op op_fdivX (pv 2) (pv 1))))))))), ?_⟩
  refine ⟨_, rfl, a, rfl, ⟨_, .of ea⟩, ?_⟩
  refine for_list (xs := rowV f n) (fun i σ' H' => Same H H' ∧ ∃ y : Option V, σ' = [some (.ref a), some (.int ((gcN f i : Nat) : Int)), y]) ⟨Same.refl _, none, rfl⟩ (fun i σ' H' _ hh => .of (hh.1 _ _ ea)) (fun i x σ' H' ex hh => ?_) (fun σ' H' hh => ?_)
  · obtain ⟨s', y, rfl⟩ := hh
    obtain ⟨hi, rfl⟩ := rowV_of ex
    refine ⟨_, rfl, _, rfl, _, _, rfl, fun H2 s2 => ⟨s'.trans s2, some (.int (f i)), ?_⟩⟩
    rw [Int.natAbs_natCast]
    rfl
  · obtain ⟨s', y, rfl⟩ := hh
    rw [rowV_len]
    have ea' := s' _ _ ea
    refine ⟨_, rfl, rfl, _, rfl, iteB (fun e => ?_) (fun e => ?_)⟩
    · have z := decI (A := True) e
      exact ⟨_, rfl, q0 (by omega) H' s'⟩
    · have z := decI0 e
      have z' : gcN f n ≠ 0 := fun h => z (by rw [h]; rfl)
      have gl := gcN_le (f := f) (n := n) hf (by exact Nat.pow_pos (by decide))
      refine ⟨_, rfl, a, rfl, ⟨_, .of ea'⟩, lc_valW (f := fun j => .int (f j / ((gcN f n : Nat) : Int))) (p := fun _ => true) walk_list (fun _ _ _ _ h => h) (fun G sG => .of (sG _ _ ea')) (by rw [rowV_len]; omega) (fun _ => rfl) (fun j x G hj ex sG R hR => hR G (Same.refl G)) (fun j x G hj ex hp sG R hR => ?_) (fun D G sG nD eD => ?_)⟩
      · obtain ⟨hj', rfl⟩ := rowV_of ex
        refine ⟨_, rfl, _, rfl, _, _, rfl, rfl, cdivx (by omega) (by rw [Int.natAbs_natCast]; exact gl), ?_⟩
        show R (V.int ((f j).fdiv ((gcN f n : Nat) : Int))) G
        rw [Int.fdiv_eq_ediv_of_dvd (gcN_dvd hj')]
        exact hR G (Same.refl G)
      · rw [filt_all, rowV_len] at eD
        exact q1 z' D G (s'.trans sG) (Same.free s' nD) eD
end
end KL
end
section
set_option maxHeartbeats 1000000
namespace KL
open PySem PySem.Spec PyProof.Rows L2
theorem shL_row (ss : List Th) (n : Nat) (a : Int) : shL ss n a = rowV (fun j => if j < n then shS ss j else a) (n + 1) := by
  refine rowV_ext (shL_len _ _ _) fun j hj => ?_
  by_cases h : j < n
  · rw [shL_get h, if_pos h]
  · rw [show j = n by omega, shL_last, if_neg (by omega)]
theorem frac_at {Z : Zone} {H : Hp} {f : Th} {v : V} (h : At Z H f v) (hf : fracB f = true) : ∃ q, v = .ref q ∧ H q = some (.tup [.int (topI f), .int (botI f)]) := by
  have e := (fracB_is hf).1
  rw [e] at h
  obtain ⟨p, u, w', rfl, ep, ha, hb⟩ := h.pair
  cases (show u = _ from ha)
  cases (show w' = _ from hb)
  exact ⟨p, rfl, ep⟩
theorem bal_iff {n i : Nat} {a t : Nat → Int} {L e : Int} {q : Nat → Int} (hi : i < n) (h : ∀ j, j < n → q j = (if j = i then 2 ^ 60 else 0) - a j) (hn : q n = e) :
    (sumN (n + 1) fun j => (if j < n then a j else e) * (if j < n then t j else L)) = t i * 2 ^ (60 : Int).toNat ↔ Lf n t L q = 0 := by
  have e1 : (sumN (n + 1) fun j => (if j < n then a j else e) * (if j < n then t j else L)) = sumN n (fun j => a j * t j) + e * L := by
    rw [sumN, if_neg (by omega), if_neg (by omega)]
    rw [sumN_congr (g := fun j => a j * t j) fun j hj => by rw [if_pos hj, if_pos hj]]
  have e2 : Lf n t L q = t i * 2 ^ 60 - sumN n (fun j => a j * t j) - L * e := by
    unfold Lf
    rw [hn, sumN_congr (g := fun j => (if j = i then t i * 2 ^ 60 else 0) + - (a j * t j)) fun j hj => by
      rw [h j hj]
      by_cases x : j = i
      · rw [if_pos x, if_pos x, x]; grind
      · rw [if_neg x, if_neg x]; grind]
    rw [sumN_add, sumN_neg, sumN_one hi fun j hj ne => if_neg ne, if_pos rfl]
    omega
  rw [e1, e2, show (60 : Int).toNat = 60 from rfl, Int.mul_comm e L]
  omega
section
variable {P : Program} {w : World} {K : PySem.W.Frag} {mg : Str → Option Value} {base : Heap} {k : Nat} {t1 t2 t3 : Tok}
end
end KL
end
section
set_option maxHeartbeats 1000000
namespace KL
open PySem PySem.Spec PyProof.Rows L2
theorem Lf_scale {n : Nat} {X : Nat → Int} {D c : Int} (x : Nat → Int) : Lf n (fun j => c * X j) (c * D) x = c * Lf n X D x := by
  unfold Lf
  rw [sumN_congr (g := fun j => c * (x j * X j)) fun j _ => by grind, sumN_mul]
  grind
theorem Lf_congr {n : Nat} {X Y : Nat → Int} {D : Int} {x : Nat → Int} (h : ∀ j, j < n → X j = Y j) : Lf n X D x = Lf n Y D x := by
  unfold Lf
  rw [sumN_congr fun j hj => by rw [h j hj]]
theorem trimL_len {z : Int} {rows : List Th} (h : keep rows ≠ []) : (trimL z rows).length = (keep rows).length := by
  unfold trimL
  rw [if_neg h, List.length_map]
theorem trim_lvE {z : Int} {rows : List Th} (ok : MOk z rows) (h : keep rows ≠ []) : ∀ s, s < (trimL z rows).length → lvE (trimL z rows) s := fun s hs => by
  have e := keep_trim ok h
  have m : s ∈ keep (trimL z rows) := by rw [e]; exact List.mem_range.mpr (by rw [trimL_len h] at hs; exact hs)
  exact (mem_keep.mp m).2.2
/-- sums from nought on that solve the equations: all pivots are above nought -/
theorem sol_Pos {z : Int} {rows : List Th} (ok : MOk z rows) {X : Nat → Int} {D : Int} (hD : 0 < D) (hX : ∀ q, q < (trimL z rows).length → 0 ≤ X q) (h : ∀ t, t < (trimL z rows).length → Lf (trimL z rows).length X D (eqr (trimL z rows) t) = 0) : PosR (trimL z rows) := by
  by_cases hk : keep rows = []
  · have : trimL z rows = [bareRow z] := by unfold trimL; rw [if_pos hk]
    rw [this]
    exact bare_pos z
  · exact piv_pos (eqr_sg _) (eqr_live (trimL_ok ok) (trim_lvE ok hk)) (eqr_id _) hD hX h _ (Nat.le_refl _)
abbrev wosL (rows : List Th) : List Th := (List.range rows.length).map fun i => frT (Yk (eqr rows) rows.length i rows.length) (dk (eqr rows) rows.length)
theorem low_parts {a b : Int} (hb : 0 < b) : lowT a b * ((Nat.gcd a.natAbs b.natAbs : Nat) : Int) = a ∧ (b / ((Nat.gcd a.natAbs b.natAbs : Nat) : Int)) * ((Nat.gcd a.natAbs b.natAbs : Nat) : Int) = b ∧ 0 < b / ((Nat.gcd a.natAbs b.natAbs : Nat) : Int) :=
  ⟨Int.ediv_mul_cancel (ndvd (Nat.gcd_dvd_left _ _)), Int.ediv_mul_cancel (ndvd (Nat.gcd_dvd_right _ _)), Int.ediv_pos_of_pos_of_dvd hb (by omega) (ndvd (Nat.gcd_dvd_right _ _))⟩
theorem frT_frac {a b : Int} (ha : 0 ≤ a) (hb : 0 < b) : fracB (frT a b) = true := by
  obtain ⟨g, a', b', eg, g0, ea, eb, cp⟩ := gcd_parts (a := a) (b := b) (by omega)
  have e1 : lowT a b = a' := by unfold lowT; rw [← eg, ea]; exact Int.mul_ediv_cancel_left _ (by omega)
  have e2 : b / ((Nat.gcd a.natAbs b.natAbs : Nat) : Int) = b' := by rw [← eg]; conv => lhs; rw [eb]
                                                                     exact Int.mul_ediv_cancel_left _ (by omega)
  have p2 := (low_parts (a := a) hb).2.2
  rw [e2] at p2
  show fracB (.tup [.int (lowT a b), .int (b / ((Nat.gcd a.natAbs b.natAbs : Nat) : Int))]) = true
  rw [e1, e2]
  have p1 : 0 ≤ a' := by
    refine Classical.byContradiction fun c => ?_
    have : g * a' < 0 := Int.mul_neg_of_pos_of_neg g0 (by omega)
    omega
  show (decide (0 ≤ a') && (decide (1 ≤ b') && decide (Nat.gcd a'.natAbs b'.natAbs = 1))) = true
  rw [decide_eq_true p1, decide_eq_true (show 1 ≤ b' by omega), decide_eq_true (show Nat.gcd a'.natAbs b'.natAbs = 1 from cp)]
  rfl
theorem wos_nn {rows : List Th} (hp : PosR rows) {q : Nat} (hq : q < rows.length) : 0 ≤ Yk (eqr rows) rows.length q rows.length := sol_nonneg (eqr_sg rows) hp hq
theorem wos_get {rows : List Th} {j : Nat} (h : j < rows.length) : ((wosL rows)[j]?).getD .non = frT (Yk (eqr rows) rows.length j rows.length) (dk (eqr rows) rows.length) := by
  rw [List.getElem?_map, List.getElem?_range h]; rfl
theorem wosL_len (rows : List Th) : (wosL rows).length = rows.length := by rw [List.length_map, List.length_range]
theorem wos_frac {rows : List Th} (hp : PosR rows) : ∀ f ∈ wosL rows, fracB f = true := fun f m => by
  obtain ⟨i, mi, rfl⟩ := List.mem_map.mp m
  exact frT_frac (wos_nn hp (List.mem_range.mp mi)) (hp _ (Nat.le_refl _))
theorem tp_nn {fs : List Th} (h : ∀ f ∈ fs, fracB f = true) {j : Nat} (hj : j < fs.length) : 0 ≤ tpI fs j := by
  have m : (fs[j]?).getD .non ∈ fs := by rw [List.getElem?_eq_getElem hj]; exact List.getElem_mem _
  obtain ⟨_, a, b, _⟩ := fracB_is (h _ m)
  exact Int.mul_nonneg a (Int.ediv_nonneg (Int.natCast_nonneg _) (by omega))
theorem tp_mul {fs : List Th} (h : ∀ f ∈ fs, fracB f = true) {j : Nat} (hj : j < fs.length) : botI ((fs[j]?).getD .non) * ((lcmN fs fs.length : Nat) / botI ((fs[j]?).getD .non)) = ((lcmN fs fs.length : Nat) : Int) := by
  have := bot_dvd (fs := fs) hj
  exact Int.mul_ediv_cancel' (Int.natAbs_dvd_natAbs.mp (by rw [Int.natAbs_natCast]; exact this))
theorem bal_wos {z : Int} {rows : List Th} (ok : MOk z rows) {fs : List Th} (hB : ∀ f ∈ fs, fracB f = true) (lf : fs.length = (trimL z rows).length) : Bal (trimL z rows) fs ↔ PosR (trimL z rows) ∧ fs = wosL (trimL z rows) := by
  have L0 : (0 : Int) < ((lcmN fs fs.length : Nat) : Int) := by have := lcmN_pos hB _ (Nat.le_refl _); omega
  constructor
  · intro hb
    have hp := sol_Pos ok L0 (fun q hq => tp_nn hB (by omega)) hb
    refine ⟨hp, ?_⟩
    refine List.ext_getElem? fun j => ?_
    by_cases hj : j < fs.length
    · have m : (fs[j]?).getD .non ∈ fs := by rw [List.getElem?_eq_getElem hj]; exact List.getElem_mem _
      obtain ⟨e, a, b, cp⟩ := fracB_is (hB _ m)
      have sl := one_sol hb (q := j) (by omega)
      have d0 := hp _ (Nat.le_refl _)
      have tm := tp_mul hB hj
      unfold tpI at sl
      have eg : fs[j]? = some ((fs[j]?).getD .non) := by rw [List.getElem?_eq_getElem hj]; rfl
      rw [eg, List.getElem?_map, List.getElem?_range (by omega)]
      generalize (fs[j]?).getD .non = f at *
      show some f = some (frT _ _)
      rw [e]
      have k0 : ((lcmN fs fs.length : Nat) : Int) / botI f ≠ 0 := fun h => by rw [h, Int.mul_zero] at tm; omega
      have x : botI f * Yk (eqr (trimL z rows)) (trimL z rows).length j (trimL z rows).length = dk (eqr (trimL z rows)) (trimL z rows).length * topI f := by
        have : (((lcmN fs fs.length : Nat) : Int) / botI f) * (botI f * Yk (eqr (trimL z rows)) (trimL z rows).length j (trimL z rows).length) = (((lcmN fs fs.length : Nat) : Int) / botI f) * (dk (eqr (trimL z rows)) (trimL z rows).length * topI f) := by
          rw [← Int.mul_assoc, Int.mul_comm (((lcmN fs fs.length : Nat) : Int) / botI f) (botI f), tm, ← sl]
          grind
        exact Int.eq_of_mul_eq_mul_left k0 this
      obtain ⟨h1, h2, _⟩ := low_eq (a := Yk (eqr (trimL z rows)) (trimL z rows).length j (trimL z rows).length) (b := dk (eqr (trimL z rows)) (trimL z rows).length) (c := topI f) (e := botI f) (s := 1) d0 (by omega) x (by rw [if_neg (by omega), cp]; rfl)
      rw [Int.ediv_one] at h1 h2
      rw [h1, h2]; rfl
    · rw [List.getElem?_eq_none (by omega), List.getElem?_eq_none (by rw [wosL_len]; omega)]
  · rintro ⟨hp, rfl⟩
    intro s hs
    have d0 := hp _ (Nat.le_refl _)
    have ts := the_sol (r := eqr (trimL z rows)) (n := (trimL z rows).length) (fun m hm => by have := hp m hm; omega) hs
    have e1 := Lf_scale (n := (trimL z rows).length) (X := fun q => Yk (eqr (trimL z rows)) (trimL z rows).length q (trimL z rows).length) (D := dk (eqr (trimL z rows)) (trimL z rows).length) (c := ((lcmN (wosL (trimL z rows)) (wosL (trimL z rows)).length : Nat) : Int)) (eqr (trimL z rows) s)
    have e2 := Lf_scale (n := (trimL z rows).length) (X := tpI (wosL (trimL z rows))) (D := ((lcmN (wosL (trimL z rows)) (wosL (trimL z rows)).length : Nat) : Int)) (c := dk (eqr (trimL z rows)) (trimL z rows).length) (eqr (trimL z rows) s)
    rw [ts, Int.mul_zero] at e1
    have e3 : Lf (trimL z rows).length (fun j => dk (eqr (trimL z rows)) (trimL z rows).length * tpI (wosL (trimL z rows)) j) (dk (eqr (trimL z rows)) (trimL z rows).length * ((lcmN (wosL (trimL z rows)) (wosL (trimL z rows)).length : Nat) : Int)) (eqr (trimL z rows) s) = 0 := by
      rw [← e1, Int.mul_comm (dk _ _)]
      refine Lf_congr fun j hj => ?_
      have tm := tp_mul hB (j := j) (by rw [wosL_len]; exact hj)
      unfold tpI
      rw [wos_get hj] at tm ⊢
      obtain ⟨p1, p2, p3⟩ := low_parts (a := Yk (eqr (trimL z rows)) (trimL z rows).length j (trimL z rows).length) d0
      have t1 : topI (frT (Yk (eqr (trimL z rows)) (trimL z rows).length j (trimL z rows).length) (dk (eqr (trimL z rows)) (trimL z rows).length)) = lowT (Yk (eqr (trimL z rows)) (trimL z rows).length j (trimL z rows).length) (dk (eqr (trimL z rows)) (trimL z rows).length) := rfl
      have t2 : botI (frT (Yk (eqr (trimL z rows)) (trimL z rows).length j (trimL z rows).length) (dk (eqr (trimL z rows)) (trimL z rows).length)) = dk (eqr (trimL z rows)) (trimL z rows).length / ((Nat.gcd (Yk (eqr (trimL z rows)) (trimL z rows).length j (trimL z rows).length).natAbs (dk (eqr (trimL z rows)) (trimL z rows).length).natAbs : Nat) : Int) := rfl
      rw [t1, t2]
      rw [t2] at tm
      generalize lowT (Yk (eqr (trimL z rows)) (trimL z rows).length j (trimL z rows).length) (dk (eqr (trimL z rows)) (trimL z rows).length) = A at *
      generalize dk (eqr (trimL z rows)) (trimL z rows).length / ((Nat.gcd (Yk (eqr (trimL z rows)) (trimL z rows).length j (trimL z rows).length).natAbs (dk (eqr (trimL z rows)) (trimL z rows).length).natAbs : Nat) : Int) = B at *
      generalize ((Nat.gcd (Yk (eqr (trimL z rows)) (trimL z rows).length j (trimL z rows).length).natAbs (dk (eqr (trimL z rows)) (trimL z rows).length).natAbs : Nat) : Int) = G at *
      generalize ((lcmN (wosL (trimL z rows)) (wosL (trimL z rows)).length : Nat) : Int) = L at *
      rw [← p1, ← p2]
      generalize L / B = C at *
      rw [← tm]
      grind
    rw [e3] at e2
    rcases Int.mul_eq_zero.mp e2.symm with h | h
    · omega
    · exact h
end KL
end
section
set_option maxHeartbeats 1000000
namespace KL
open PySem PySem.Spec PyProof.Rows L2
/-! ### texts, and tuples put together exactly -/
def Lets (z : Int) (ls : List Th) : Prop := ∀ l ∈ ls, ∃ i, l = .int i ∧ 0 ≤ i ∧ i < z
theorem Lets.nil (z : Int) : Lets z [] := fun l m => nomatch m
theorem Lets.app {z : Int} {ls ks : List Th} (h : Lets z ls) (k : Lets z ks) : Lets z (ls ++ ks) := fun l m => (List.mem_append.mp m).elim (h l) (k l)
theorem Lets.one {z i : Int} (h0 : 0 ≤ i) (h1 : i < z) : Lets z [.int i] := fun l m => ⟨i, List.mem_singleton.mp m, h0, h1⟩
def rCatX (K : PySem.W.Frag) : R2 := fun x y H Q => ∃ (Z : Zone) (ds es : List Th), At Z H (.tup ds) x ∧ At Z H (.tup es) y ∧ (∀ a, Z a → Trk H a) ∧ ds.length + es.length ≤ 1000000 ∧ ∀ v H', Same H H' → At Z H' (.tup (ds ++ es)) v → Q v H'
section
variable {X : Cx}
theorem op_catX : OpR X (binaryOp .Add) (rCatX X.K) := by
  intro pins s σ H x y v u Q I rx ry h
  refine op_catA pins s σ H x y v u Q I rx ry ?_
  obtain ⟨Z, ds, es, h1, h2, hZ, hz, q⟩ := h
  obtain ⟨a, vs, rfl, na, e1, a1⟩ := id h1
  obtain ⟨b, us, rfl, nb, e2, a2⟩ := id h2
  refine ⟨a, b, vs, us, rfl, rfl, .of e1, .of e2, by rw [a1.len, a2.len, sizeLine_eq]; omega, fun e => ?_, fun _ e => ?_, fun _ _ p hp => ?_⟩
  · have : ds = [] := List.eq_nil_of_length_eq_zero (by rw [← a1.len, e]; rfl)
    have q' := q (.ref b) H (Same.refl H)
    rw [this, List.nil_append] at q'
    exact q' h2
  · have : es = [] := List.eq_nil_of_length_eq_zero (by rw [← a2.len, e]; rfl)
    have q' := q (.ref a) H (Same.refl H)
    rw [this, List.append_nil] at q'
    exact q' h1
  · have sp := same_new hp (.tup (vs ++ us))
    exact q _ _ sp ⟨p, _, rfl, fun t => hZ p t hp, upd_same, (a1.append a2).same sp⟩
end
def spWay : Sp := fun vs H Q _ => ∃ (Z : Zone) (pr ed : Addr) (us : List V) (z : Int) (rows : List Th) (b : Nat) (es : List Nat), vs = [.ref pr, .int (b : Nat), .ref ed] ∧ H pr = some (.tup us) ∧ AtAll Z H rows us ∧ MOk z rows ∧ b < rows.length ∧ H ed = some (.lst (es.map nV)) ∧
  (∀ (v : V) (H' : Hp) (ls : List Th) (e : Nat), Same H H' → e ∈ es → Led rows b ls e → Lets z ls → ls.length ≤ 1000 → At (Trk H) H' (.tup ls) v → Q v H') ∧ ((∀ e ∈ es, ¬ Rc rows b e) → ∀ H', Same H H' → Q .non H')
/-- the states found and the texts to them -/
structure WD (z : Int) (rows : List Th) (b : Nat) (Z : Zone) (H : Hp) (left : List Nat) (kvs : List (Key × V)) : Prop where
  nd : left.Nodup
  mb : b ∈ left
  snd : ∀ x ∈ left, Rc rows b x
  kl : kvs.length = left.length
  txt : ∀ x : Nat, x ∈ left → ∃ v ls, valV kvs (Sum.inl (x : Int)) = some v ∧ Led rows b ls x ∧ Lets z ls ∧ ls.length ≤ left.length ∧ At Z H (.tup ls) v
  non : ∀ x : Nat, x ∉ left → valV kvs (Sum.inl (x : Int)) = none
theorem WD.sb {z : Int} {rows : List Th} {b : Nat} {Z : Zone} {H H' : Hp} {left : List Nat} {kvs : List (Key × V)} (h : WD z rows b Z H left kvs) (s : SB Z H H') : WD z rows b Z H' left kvs :=
  ⟨h.nd, h.mb, h.snd, h.kl, fun x m => let ⟨v, ls, e1, e2, e3, e4, e5⟩ := h.txt x m; ⟨v, ls, e1, e2, e3, e4, e5.sb s⟩, h.non⟩
theorem WD.len {z : Int} {rows : List Th} {b : Nat} {Z : Zone} {H : Hp} {left : List Nat} {kvs : List (Key × V)} (h : WD z rows b Z H left kvs) (ok : MOk z rows) (hb : b < rows.length) : left.length ≤ rows.length := nd_len h.nd fun x m => ok.rc_lt hb (h.snd x m)
theorem WD.add {z : Int} {rows : List Th} {b x l t : Nat} {m : Int} {Z : Zone} {H : Hp} {left : List Nat} {kvs : List (Key × V)} (h : WD z rows b Z H left kvs) (mx : x ∈ left) (e : stepAt rows x l = .tup [.int m, .int (t : Int)]) (hl : (l : Int) < z) (nt : t ∉ left)
    {v : V} {ls : List Th} (hd : Led rows b ls x) (hL : Lets z ls) (hn : ls.length ≤ left.length) (ha : At Z H (.tup (ls ++ [.int (l : Nat)])) v) : WD z rows b Z H (left ++ [t]) (putK kvs (Sum.inl (t : Int)) v) where
  nd := List.nodup_append.mpr ⟨h.nd, by simp, fun a ma c mc e => by
    rw [List.mem_singleton.mp mc] at e
    subst e
    exact nt ma⟩
  mb := List.mem_append_left _ h.mb
  snd := fun y my => by
    rcases List.mem_append.mp my with my | my
    · exact h.snd y my
    · rw [List.mem_singleton.mp my]
      have := step_nx e
      rw [Int.toNat_natCast] at this
      exact .step (h.snd x mx) this
  kl := by rw [putK_new v (h.non t nt), List.length_append, List.length_append, h.kl]; rfl
  txt := fun y my => by
    rw [valV_put]
    rcases List.mem_append.mp my with my | my
    · have ne : y ≠ t := fun e => nt (e ▸ my)
      rw [if_neg (fun h => ne (by injection h with h; omega))]
      obtain ⟨v, ls, e1, e2, e3, e4, e5⟩ := h.txt y my
      exact ⟨v, ls, e1, e2, e3, by rw [List.length_append]; omega, e5⟩
    · have et := List.mem_singleton.mp my
      subst et
      rw [if_pos rfl]
      refine ⟨v, ls ++ [.int (l : Nat)], rfl, ?_, hL.app (Lets.one (by omega) hl), by rw [List.length_append, List.length_append, List.length_singleton, List.length_singleton]; omega, ha⟩
      have := hd.snoc e
      rwa [Int.toNat_natCast] at this
  non := fun y ny => by
    rw [valV_put]
    have ne : y ≠ t := fun e => ny (by rw [e]; simp)
    rw [if_neg (fun h => ne (by injection h with h; omega))]
    exact h.non y fun m => ny (List.mem_append_left _ m)
theorem inV_ns' (t : Nat) (fs : List Nat) : inV (nV t) (fs.map nV) = true ↔ t ∈ fs := by rw [inV_ns, decide_eq_true_eq]
section
variable {P : Program} {w : World} {K : PySem.W.Frag} {mg : Str → Option Value} {base : Heap} {k : Nat}
end
end KL
end
section
set_option maxHeartbeats 1000000
namespace KL
open PySem PySem.Spec PyProof.Rows L2
section
variable {X : Cx} {k : Nat} {x : Str} {ps : List Str} {sp : Sp} {e : Expr} {es : List Expr} {t : TA} {p pos : Pos}
/-- a call of a def that may raise, but doesn't -/
theorem pe_calL (C : Cal X.prog X.w X.K X.mg X.base (L2.CX X.prog X.w) k x ps sp) (hr : Room k X.A) (hg : Gl X x) (ha : PA X (e :: es) t) (hdb : (x == ("__debug__" : Str)) = false := by decide)
    (he : starEach (e :: es) X.env = (false, eval e X.env) :: starEach es X.env := by rfl) (hpl : (backTo pos (starEach es X.env)).any (·.1) = false := by rfl) :
    PE X (.Call (.Name x p) (e :: es) [] pos) (tCall sp [] E0 t) :=
  let ⟨_, _, F, m, kp, b⟩ := C.ex
  pe_call F hr hg m kp b .nil passL ha hdb he hpl
end
theorem shortL_of : ∀ {xs : List Th}, (∀ x ∈ xs, shortT x = true) → shortL xs = true
  | [], _ => rfl
  | x :: xs, h => by rw [shortL, h x List.mem_cons_self, shortL_of (fun y m => h y (List.mem_cons_of_mem _ m))]; rfl
theorem MOk.short {z : Int} {rows : List Th} (ok : MOk z rows) : shortT (.tup [.int z, .tup rows]) = true := by
  have hr : shortL rows = true := shortL_of fun r m => by
    obtain ⟨e, ss, rfl, h1, h2, h3⟩ := rowB_is (ok.r r m)
    have hs : shortL ss = true := shortL_of fun st m => by
      rcases h3 st m with rfl | ⟨a, b, rfl, _⟩ <;> rfl
    have he : shortT e = true := by rcases h1 with rfl | ⟨i, rfl, _⟩ <;> rfl
    have hz := ok.z8
    simp only [shortT, shortL, he, hs, List.length_cons, List.length_nil, Bool.and_true]
    rw [decide_eq_true (by omega : ss.length ≤ 1000000)]
    rfl
  have hn := ok.n30
  simp only [shortT, shortL, hr, List.length_cons, List.length_nil, Bool.and_true]
  rw [decide_eq_true (by omega : rows.length ≤ 1000000)]
  rfl
theorem Lets.short {z : Int} {ls : List Th} (h : Lets z ls) (hl : ls.length ≤ 1000000) : shortT (.tup ls) = true := by
  rw [shortT, decide_eq_true hl]
  exact shortL_of fun l m => by obtain ⟨i, rfl, _⟩ := h l m; rfl
theorem Lets.text {z : Int} {ls : List Th} (h : Lets z ls) : textB z (.tup ls) = true := textB_of h
/-- whatever the zone -/
theorem At.any {Z : Zone} {H : Hp} {t : Th} {v : V} (h : At Z H t v) : At (fun _ => False) H t v := h.less fun _ f => f.elim
/-- what length tells of a machine and a text of its letters -/
theorem use_length {CM CT : Addr} {H : Hp} {Q : VK} {E : XK} {Z Z' : Zone} {u v : V} {z : Int} {rows ls : List Th} (hu : At Z H (.tup [.int z, .tup rows]) u) (hv : At Z' H (.tup ls) v) (ok : MOk z rows) (hl : Lets z ls) (l4 : ls.length ≤ 1000000)
    (q : ∀ H', Same H H' → Q (optV (lenT rows ls)) H') : spLength CM CT [u, v] H Q E :=
  ⟨fun _ => False, u, v, _, _, rfl, hu.any, hv.any, ok.short, hl.short l4, fun z' rows' ls' e1 _ e2 _ H' s' => by
    injection e1 with e1; injection e1 with _ e1; injection e1 with e1 _; injection e1 with e1
    injection e2 with e2
    subst e1 e2
    exact q H' s', fun z' rows' e1 _ tb => by
    injection e1 with e1; injection e1 with e0 e1; injection e0 with e0
    subst e0
    exact absurd (tb.symm.trans hl.text) (by decide), fun mb => absurd (mb.symm.trans ok.mach) (by decide)⟩
def ShortT (z : Int) (i : Nat) (t : Th) : Prop := ∃ ls, t = .tup ls ∧ Lets z ls ∧ ls.length ≤ i
def spShort : Sp := fun vs H Q _ => ∃ (z : Int), vs = [.int z, .int 200] ∧ 1 ≤ z ∧ z ≤ 8 ∧ ∀ D us ts H', Same H H' → H D = none → H' D = some (.lst us) → AtAll (Trk H) H' ts us → ts.length ≤ 2000 → (∀ t ∈ ts, ShortT z 8 t) → Q (.ref D) H'
section
variable {P : Program} {w : World} {K : PySem.W.Frag} {mg : Str → Option Value} {base : Heap} {k : Nat}
end
end KL
end
section
set_option maxHeartbeats 4000000
set_option exponentiation.threshold 2000
namespace KL
open PySem PySem.Spec PyProof.Rows L2
/-! ### things as the library's data -/
mutual
def py : Th → PyData
  | .non => .none
  | .bl b => .bool b
  | .int i => .int i
  | .str x => .str x
  | .lst xs => .list (pyL xs)
  | .tup xs => .tuple (pyL xs)
  | .dic xs => .dict [(.str "a", .list (pyL xs)), (.int 1, .none)]
def pyL : List Th → List PyData
  | [] => []
  | x :: xs => py x :: pyL xs
end
mutual
theorem py_bulk : ∀ t : Th, (py t).bulk = bk t
  | .non => rfl
  | .bl _ => rfl
  | .int _ => rfl
  | .str _ => rfl
  | .lst xs => pyL_bulk xs
  | .tup xs => pyL_bulk xs
  | .dic xs => by
    have h := pyL_bulk xs
    show (1 + PyData.bulkAll (pyL xs) + 2 + (0 + 0 + 2 + 0)) = bkL xs + 5
    omega
theorem pyL_bulk : ∀ ts : List Th, PyData.bulkAll (pyL ts) = bkL ts
  | [] => rfl
  | x :: xs => by
    show (py x).bulk + 1 + PyData.bulkAll (pyL xs) = bk x + 1 + bkL xs
    rw [py_bulk x, pyL_bulk xs]
end
theorem int_short {i : Int} {M : Nat} (hM : M < 10 ^ 30) (h : i.natAbs ≤ M) : (PyData.shown (.int i)).length ≤ 34 := by
  have e := int_text_length_le10 (a := i) (k := 30) (by decide) (show i.natAbs < 10 ^ 30 by omega)
  show (Str.ofString (toString i)).length ≤ 34
  rw [PySem.ofString_length]
  omega
mutual
theorem py_short {M : Nat} (hM : M < 10 ^ 30) : ∀ t : Th, lf M t = true → (py t).leavesShort 34 = true
  | .non, _ => by simp [py, PyData.leavesShort]
  | .bl _, _ => by simp [py, PyData.leavesShort]
  | .int i, h => by
    rw [lf, decide_eq_true_eq] at h
    rw [py, PyData.leavesShort]
    exact decide_eq_true (int_short hM h)
  | .str x, h => by
    rw [lf, List.all_eq_true] at h
    rw [py, PyData.leavesShort, List.all_eq_true]
    intro c hc
    have h2 := of_decide_eq_true (h c hc)
    exact decide_eq_true (Nat.lt_of_lt_of_le h2 (by decide))
  | .lst xs, h => by rw [py, PyData.leavesShort]; exact pyL_short hM xs h
  | .tup xs, h => by rw [py, PyData.leavesShort]; exact pyL_short hM xs h
  | .dic xs, h => by
    have h2 := pyL_short hM xs h
    rw [py]
    simp only [PyData.leavesShort, PyData.leavesShortKv, h2, Bool.and_true, Bool.true_and]
    decide
theorem pyL_short {M : Nat} (hM : M < 10 ^ 30) : ∀ ts : List Th, lfL M ts = true → PyData.leavesShortAll 34 (pyL ts) = true
  | [], _ => by simp [pyL, PyData.leavesShortAll]
  | x :: xs, h => by
    rw [lfL, Bool.and_eq_true] at h
    rw [pyL, PyData.leavesShortAll, py_short hM x h.1, pyL_short hM xs h.2]
    rfl
end
mutual
theorem py_showable {M : Nat} (hM : M < 10 ^ 30) : ∀ t : Th, lf M t = true → (py t).showable = true
  | .non, _ => by simp [py, PyData.showable]
  | .bl _, _ => by simp [py, PyData.showable]
  | .str _, _ => by simp [py, PyData.showable]
  | .int i, h => by
    rw [lf, decide_eq_true_eq] at h
    rw [py, PyData.showable]
    refine decide_eq_true ?_
    by_cases h0 : i.natAbs = 0
    · rw [h0]; decide
    · exact (Nat.log2_lt h0).mpr (Nat.lt_of_lt_of_le (show i.natAbs < 10 ^ 30 by omega) (by
        have : (10 : Nat) ^ 30 ≤ 2 ^ 100 := by decide
        exact Nat.le_trans this (Nat.pow_le_pow_right (by decide) (by decide))))
  | .lst xs, h => by rw [py, PyData.showable]; exact pyL_showable hM xs h
  | .tup xs, h => by rw [py, PyData.showable]; exact pyL_showable hM xs h
  | .dic xs, h => by
    have h2 := pyL_showable hM xs h
    rw [py]
    simp only [PyData.showable, PyData.showableKv, h2, Bool.and_true, Bool.true_and]
    decide
theorem pyL_showable {M : Nat} (hM : M < 10 ^ 30) : ∀ ts : List Th, lfL M ts = true → PyData.showableAll (pyL ts) = true
  | [], _ => by simp [pyL, PyData.showableAll]
  | x :: xs, h => by
    rw [lfL, Bool.and_eq_true] at h
    rw [pyL, PyData.showableAll, py_showable hM x h.1, pyL_showable hM xs h.2]
    rfl
end
mutual
theorem py_depth : ∀ t : Th, (py t).depth ≤ dp t
  | .non => Nat.le_refl _
  | .bl _ => Nat.le_refl _
  | .int _ => Nat.le_refl _
  | .str _ => Nat.le_refl _
  | .lst xs => Nat.succ_le_succ (pyL_depth xs)
  | .tup xs => Nat.succ_le_succ (pyL_depth xs)
  | .dic xs => by
    have h := pyL_depth xs
    rw [py]
    simp only [PyData.depth, PyData.depthKv, dp]
    omega
theorem pyL_depth : ∀ ts : List Th, PyData.depthAll (pyL ts) ≤ dpL ts
  | [] => Nat.le_refl _
  | x :: xs => by
    have h1 := py_depth x
    have h2 := pyL_depth xs
    show max (py x).depth (PyData.depthAll (pyL xs)) ≤ max (dp x) (dpL xs)
    omega
end
section
variable {X : Cx} {pins : List (Addr × Obj)} {σ : L2.St} {H : Hp} {s : Shared}
theorem not_sys (I : Inv X pins σ H s) (hb : ∃ o, X.base.get? sysModules = some o) {a : Addr} {o : HO} (e : H a = some o) : a ≠ sysModules := fun z => by
  obtain ⟨ob, hb⟩ := hb
  have n := (I.bs sysModules ob hb).2
  rw [← z, e] at n
  cases n
theorem dic_entries {P : Program} {w : World} {l : Addr} {es : List DictEntry} {kv : List (Key × Value)} (k : KV ([(Sum.inr ("a" : Str), V.ref l), (Sum.inl (1 : Int), V.non)] : List (Key × V)) kv) (p : Pairs (mixKind P w) es kv) :
    ∃ d1 d2 t1 t2, es = [d1, d2] ∧ d1.key = .str "a" t1 ∧ d1.val = .ref l ∧ d2.key = .int 1 t2 ∧ d2.val = .none := by
  match kv, k with
  | [(k1, v1), (k2, v2)], .cons a1 (.cons a2 .nil) =>
    obtain ⟨b1, c1⟩ := a1
    obtain ⟨b2, c2⟩ := a2
    match es, p with
    | [d1, d2], .cons p1 q1 (.cons p2 q2 .nil) =>
      have p1' : keyIs k1 d1.key = true := p1
      have p2' : keyIs k2 d2.key = true := p2
      have b1' : Sum.inr ("a" : Str) = k1 := b1
      have b2' : Sum.inl (1 : Int) = k2 := b2
      subst b1' b2'
      rcases keyIs_shape p1' with ⟨i, t, e1, _⟩ | ⟨x, t1, e1, f1⟩
      · cases e1
      · rcases keyIs_shape p2' with ⟨i, t2, e2, f2⟩ | ⟨x, t, e2, _⟩
        · cases e1
          cases e2
          exact ⟨d1, d2, t1, t2, rfl, f1, q1.trans c1, f2, q2.trans c2⟩
        · cases e2
mutual
theorem At.reads (I : Inv X pins σ H s) (hb : ∃ o, X.base.get? sysModules = some o) {Z : Zone} : ∀ (t : Th) (v : V) (u : Value), At Z H t v → RelV v u → ∃ as, Reads s.heap u (py t) as ∧ sysModules ∉ as
  | .non, _, _, h, r => by
    cases h; cases r
    exact ⟨_, Reads.none, by simp⟩
  | .bl b, _, _, h, r => by
    cases h; cases r
    exact ⟨_, Reads.bool b, by simp⟩
  | .int i, _, _, h, r => by
    cases h
    obtain ⟨t, rfl⟩ := r
    exact ⟨_, Reads.int i t, by simp⟩
  | .str x, _, _, h, r => by
    cases h
    obtain ⟨t, rfl⟩ := r
    exact ⟨_, Reads.str x t, by simp⟩
  | .lst xs, _, _, h, r => by
    obtain ⟨a, vs, rfl, _, e, ha⟩ := h
    cases r
    obtain ⟨its, rv, ⟨o, n, ho, hc, _, hd⟩, _⟩ := I.list (SqL.of e)
    obtain ⟨as, hr, hn⟩ := AtAll.reads I hb xs vs its ha rv
    exact ⟨_, Reads.list ho hc hd hr, fun m => (List.mem_cons.mp m).elim (fun z => not_sys I hb e z.symm) hn⟩
  | .tup xs, _, _, h, r => by
    obtain ⟨a, vs, rfl, _, e, ha⟩ := h
    cases r
    obtain ⟨its, rv, ⟨o, ho, hc, n, hd⟩, _⟩ := I.tuple (SqT.of e)
    obtain ⟨as, hr, hn⟩ := AtAll.reads I hb xs vs its ha rv
    exact ⟨_, Reads.tuple ho hc hd hr, hn⟩
  | .dic xs, _, _, h, r => by
    obtain ⟨a, l, vs, rfl, _, _, e, el, ha⟩ := h
    cases r
    obtain ⟨its, rv, ⟨o, n, ho, hc, _, hd⟩, _⟩ := I.list (SqL.of el)
    obtain ⟨as, hr, hn⟩ := AtAll.reads I hb xs vs its ha rv
    obtain ⟨_, gs, ps, kv, od, es, ep, g1, g2, g3, g5, g4, g6⟩ := (show ObjOk X.prog X.w H s.heap a (.dK [(Sum.inr "a", .ref l), (Sum.inl 1, .non)]) from I.hok a _ e)
    obtain ⟨d1, d2, t1, t2, ee, e1, e2, e3, e4⟩ := dic_entries kv g4
    have na : sysModules ≠ a := fun z => not_sys I hb e z.symm
    have nl : sysModules ≠ l := fun z => not_sys I hb el z.symm
    refine ⟨_, Reads.dict (kvs := [(.str "a", .list (pyL xs)), (.int 1, .none)]) g1 g2.1 g3 (by rw [ee]; show ReadsAll s.heap [d1.key, d2.key] [.str "a", .int 1] _; rw [e1, e3]; exact ReadsAll.cons (Reads.str _ _) (ReadsAll.cons (Reads.int _ _) ReadsAll.nil))
      (by rw [ee]; show ReadsAll s.heap [d1.val, d2.val] [.list (pyL xs), .none] _; rw [e2, e4]; exact ReadsAll.cons (Reads.list ho hc hd hr) (ReadsAll.cons Reads.none ReadsAll.nil)), ?_⟩
    intro m
    simp only [List.nil_append, List.append_nil, List.cons_append, List.mem_cons] at m
    rcases m with z | z | z
    · exact na z
    · exact nl z
    · exact hn z
theorem AtAll.reads (I : Inv X pins σ H s) (hb : ∃ o, X.base.get? sysModules = some o) {Z : Zone} : ∀ (ts : List Th) (vs : List V) (us : List Value), AtAll Z H ts vs → Vals vs us → ∃ as, ReadsAll s.heap us (pyL ts) as ∧ sysModules ∉ as
  | [], _, _, h, r => by
    cases (show _ = [] from h)
    cases r
    exact ⟨_, ReadsAll.nil, by simp⟩
  | x :: xs, _, _, h, r => by
    obtain ⟨u, us, rfl, h1, h2⟩ := h
    cases r with
    | cons r1 r2 =>
      obtain ⟨as, q1, n1⟩ := At.reads I hb x _ _ h1 r1
      obtain ⟨bs, q2, n2⟩ := AtAll.reads I hb xs _ _ h2 r2
      exact ⟨_, ReadsAll.cons q1 q2, fun m => (List.mem_append.mp m).elim n1 n2⟩
end
/-- repr of a thing -/
theorem call_reprT (hg : X.A.guards = some []) (hu : X.A.units + 64 < cLine) (hb : ∃ o, X.base.get? sysModules = some o) :
    CallR X (.builtin "repr") (fun xs H Q => ∃ Z t v B M D, xs = [v] ∧ At Z H t v ∧ Gd B M D t ∧ B ≤ 400000 ∧ M < 10 ^ 30 ∧ D ≤ 60 ∧ Q (.str (py t).shown) H) := by
  intro pins s σ H xs us Q I r h
  obtain ⟨Z, t, v, B, M, D, rfl, h, g, hB, hM, hD, q⟩ := h
  obtain ⟨u, rfl, ru⟩ := vals1 r
  have sz : (py t).shown.length ≤ sizeLine := by
    have a1 := PyData.shown_le_bulk 34 (by decide) (py t) (py_short hM t g.m)
    rw [py_bulk] at a1
    have a2 := g.b
    rw [sizeLine_eq]
    have a3 : (34 + 2) * bk t ≤ 36 * 400000 := Nat.mul_le_mul (Nat.le_refl _) (by omega)
    omega
  have fin : ∀ tk, EP X pins σ Q (.str (py t).shown tk) { s with toks := tk + 1 } := fun tk => ⟨.str _, H, I.tok _, ⟨_, rfl⟩, q⟩
  have obj : ∀ a, u = .ref a → wpAny (model X.prog X.w) X.A (call (.builtin "repr") [u]) (EP X pins σ Q) X.xe s := fun a ea => by
    obtain ⟨as, hr, hn⟩ := At.reads I hb t v u h ru
    subst ea
    have dd := py_depth t
    have d2 := g.d
    exact repr_of_reads' hr (py_showable hM t g.m) (fun _ => hn) hg (by omega) (fun _ _ e => e) (fun h' tk1 tk2 kp => ⟨.str _, H, I.kept kp, ⟨_, rfl⟩, q⟩) sz
  cases t with
  | non =>
    cases h; cases ru
    exact PySem.P.repr_of_none (fin _)
  | bl b =>
    cases h; cases ru
    refine PySem.P.repr_of_bool ?_
    have f := fin s.toks
    rw [show (py (.bl b)).shown = (if b then ("True" : Str) else "False") by rw [py, PyData.shown]] at f
    exact f
  | int i =>
    cases h
    obtain ⟨tk, rfl⟩ := ru
    have m := g.m
    have f := fin s.toks
    rw [show (py (.int i)).shown = (toString i : String) by rw [py, PyData.shown]] at f
    exact PySem.P.repr_of_int (by
      have e := py_showable hM (.int i) m
      rw [py, PyData.showable] at e
      exact of_decide_eq_true e) f
  | str x =>
    cases h
    obtain ⟨tk, rfl⟩ := ru
    have f := fin s.toks
    rw [show (py (.str x)).shown = reprText x by rw [py, PyData.shown]] at f sz
    exact PySem.P.repr_of_str f sz
  | lst xs =>
    obtain ⟨a, vs, rfl, _⟩ := id h
    exact obj a ru
  | tup xs =>
    obtain ⟨a, vs, rfl, _⟩ := id h
    exact obj a ru
  | dic xs =>
    obtain ⟨a, l, vs, rfl, _⟩ := id h
    exact obj a ru
end
end KL
end
section
set_option maxHeartbeats 1000000
namespace KL
open PySem PySem.Spec PyProof.Rows L2
/-! ### things as data that are compared -/
theorem layL : ∀ {xs : List Th}, (∀ x ∈ xs, (py x).canLay0 = true) → PyData.canLayAll0 (pyL xs) = true
  | [], _ => by rw [pyL]; simp only [PyData.canLayAll0]
  | x :: xs, h => by
    rw [pyL]
    simp only [PyData.canLayAll0]
    rw [h x List.mem_cons_self, layL (fun y m => h y (List.mem_cons_of_mem _ m))]
    rfl
theorem lay_tup {xs : List Th} (h : ∀ x ∈ xs, (py x).canLay0 = true) : (py (.tup xs)).canLay0 = true := by
  rw [py]
  simp only [PyData.canLay0]
  exact layL h
theorem lay_int (i : Int) : (py (.int i)).canLay0 = true := by rw [py]; simp only [PyData.canLay0]
theorem lay_non : (py .non).canLay0 = true := by rw [py]; simp only [PyData.canLay0]
theorem StepIs.lay {n : Int} {st : Th} (h : StepIs n st) : (py st).canLay0 = true := by
  rcases h with rfl | ⟨m, s, rfl, _⟩
  · exact lay_non
  · exact lay_tup fun x m => by
      rcases List.mem_cons.mp m with rfl | m
      · exact lay_int _
      · rw [List.mem_singleton.mp m]; exact lay_int _
theorem MOk.lay {z : Int} {rows : List Th} (ok : MOk z rows) : (py (.tup [.int z, .tup rows])).canLay0 = true :=
  lay_tup fun x m => by
    rcases List.mem_cons.mp m with rfl | m
    · exact lay_int _
    · rw [List.mem_singleton.mp m]
      refine lay_tup fun r mr => ?_
      obtain ⟨e, ss, rfl, h1, h2, h3⟩ := rowB_is (ok.r r mr)
      refine lay_tup fun x m => ?_
      rcases List.mem_cons.mp m with rfl | m
      · rcases h1 with rfl | ⟨i, rfl, _⟩
        · exact lay_non
        · exact lay_int _
      · rw [List.mem_singleton.mp m]
        exact lay_tup fun st mst => (h3 st mst).lay
theorem StepIs.gd {st : Th} (h : StepIs 30 st) : Gd 2 60 1 st := by
  rcases h with rfl | ⟨m, s, rfl, m0, m1, s0, s1⟩
  · exact (Gd.non (M := 60)).weak ⟨by omega, by omega, by omega⟩
  · exact (Gd.tup (GdL.cons (Gd.int (M := 60) (by omega)) (GdL.cons (Gd.int (by omega)) GdL.nil))).weak ⟨by omega, by omega, by omega⟩
theorem StepIs.up {n m : Int} {st : Th} (h : StepIs n st) (l : n ≤ m) : StepIs m st := by
  rcases h with rfl | ⟨a, s, rfl, m0, m1, s0, s1⟩
  · exact .inl rfl
  · exact .inr ⟨a, s, rfl, m0, m1, s0, by omega⟩
theorem MOk.gd {z : Int} {rows : List Th} (ok : MOk z rows) : Gd 1000 60 5 (.tup [.int z, .tup rows]) := by
  have n30 := ok.n30
  have z1 := ok.z1
  have z8 := ok.z8
  have gR : ∀ r ∈ rows, Gd 26 60 3 r := fun r mr => by
    obtain ⟨e, ss, rfl, h1, h2, h3⟩ := rowB_is (ok.r r mr)
    have gS : GdL (8 * (2 + 1)) 60 1 ss := GdL.all (fun st ms => ((h3 st ms).up (by omega)).gd) (by omega)
    have gE : Gd 0 60 0 e := by
      rcases h1 with rfl | ⟨i, rfl, i1, i2⟩
      · exact Gd.non
      · exact Gd.int (by omega)
    exact (Gd.tup (GdL.cons (gE.mono (Nat.le_refl _) (Nat.le_refl _) (by omega : 0 ≤ 2)) (GdL.cons (Gd.tup gS) GdL.nil))).weak ⟨by omega, by omega, by omega⟩
  have g1 : GdL (30 * (26 + 1)) 60 3 rows := GdL.all gR n30
  exact (Gd.tup (GdL.cons ((Gd.int (M := 60) (by omega)).mono (Nat.le_refl _) (Nat.le_refl _) (by omega : 0 ≤ 4)) (GdL.cons (Gd.tup g1) GdL.nil))).weak ⟨by omega, by omega, by omega⟩
mutual
theorem At.dp {K : PySem.W.Frag} {Z : Zone} {H : Hp} : ∀ (t : Th) (v : V), At Z H t v → (py t).canLay0 = true → Dp K H v (py t)
  | .non, _, h, _ => by cases h; exact .non
  | .bl b, _, h, _ => by cases h; exact .bl b
  | .int i, _, h, _ => by cases h; exact .int i
  | .str x, _, h, _ => by cases h; exact .str x
  | .lst xs, _, h, l => by
    obtain ⟨a, vs, rfl, _, e, ha⟩ := h
    rw [py] at l ⊢
    simp only [PyData.canLay0] at l
    exact .lst (.of e) (AtAll.dp xs vs ha l)
  | .tup xs, _, h, l => by
    obtain ⟨a, vs, rfl, _, e, ha⟩ := h
    rw [py] at l ⊢
    simp only [PyData.canLay0] at l
    exact .tup (.of e) (AtAll.dp xs vs ha l)
  | .dic xs, _, h, l => by
    rw [py] at l
    simp only [PyData.canLay0] at l
    cases l
theorem AtAll.dp {K : PySem.W.Frag} {Z : Zone} {H : Hp} : ∀ (ts : List Th) (vs : List V), AtAll Z H ts vs → PyData.canLayAll0 (pyL ts) = true → DpAll K H vs (pyL ts)
  | [], _, h, _ => by cases (show _ = [] from h); rw [pyL]; exact .nil
  | x :: xs, _, h, l => by
    obtain ⟨u, us, rfl, h1, h2⟩ := h
    rw [pyL] at l ⊢
    simp only [PyData.canLayAll0, Bool.and_eq_true] at l
    exact .cons (At.dp x u h1 l.1) (AtAll.dp xs us h2 l.2)
end
theorem shaped_th {t : Th} (l : (py t).canLay0 = true) (d : dp t ≤ 64) : SeqAt.shaped (py t) = true := by
  unfold SeqAt.shaped
  rw [l, Bool.true_and]
  exact decide_eq_true (Nat.le_trans (py_depth t) d)
/-- equal things are told equal -/
theorem eq_things {K : PySem.W.Frag} {Z Z' : Zone} {H : Hp} {t : Th} {u v : V} {R : Bool → Prop} (hu : At Z H t u) (hv : At Z' H t v) (l : (py t).canLay0 = true) (d : dp t ≤ 64) (q : R true) :
    ∃ d e, Dp K H u d ∧ Dp K H v e ∧ SeqAt.shaped d = true ∧ SeqAt.shaped e = true ∧ R (PyData.eqv d e) :=
  ⟨_, _, At.dp t u hu l, At.dp t v hv l, shaped_th l d, shaped_th l d, by rw [SeqAt.eqv_refl _ l]; exact q⟩
def zOf : Th → Int
  | .tup [z, _] => num z
  | _ => 0
def rowsOf : Th → List Th
  | .tup [_, .tup rows] => rows
  | _ => []
noncomputable def toldTh (e : Th) : Th := if machB e = true then .tup [.str "told", trimT (zOf e) (rowsOf e)] else .tup [.str "machine", .non]
def spToldT : Sp := fun vs H Q _ => ∃ (Z : Zone) (u : V) (e : Th), vs = [u] ∧ At Z H e u ∧ shortT e = true ∧ ∀ v H', Same H H' → At (Trk H) H' (toldTh e) v → Q v H'
def spGone : Sp := fun vs H Q _ => ∃ (Z : Zone) (u : V) (z : Int) (rows : List Th), vs = [u] ∧ At Z H (.tup [.int z, .tup rows]) u ∧ MOk z rows ∧ (∀ s, s < rows.length → lv rows s) ∧ ∀ H', Same H H' → Q (.bl true) H'
section
variable {P : Program} {w : World} {K : PySem.W.Frag} {mg : Str → Option Value} {base : Heap} {k : Nat}
end
end KL
end
section
set_option maxHeartbeats 1000000
namespace KL
open PySem PySem.Spec PyProof.Rows L2
def spLaw (K : PySem.W.Frag) : Sp := fun vs H Q _ => ∃ (a : Addr) (ns : List Int), vs = [.ref a] ∧ SqL K H a (ns.map V.int) ∧ ns.length ≤ 63 ∧ ∀ H', Q (.bl true) H'
theorem use_trimmed {CM : Addr} {H : Hp} {Q : VK} {E : XK} {Z : Zone} {u : V} {z : Int} {rows : List Th} (hu : At Z H (.tup [.int z, .tup rows]) u) (ok : MOk z rows) (q : ∀ v H', Same H H' → At (Trk H) H' (trimT z rows) v → Q v H') : spTrimmed CM [u] H Q E :=
  ⟨Z, u, _, rfl, hu, ok.short, fun z' rows' e1 _ v H' s' a' => by
    injection e1 with e1; injection e1 with e0 e1; injection e0 with e0; injection e1 with e1 _; injection e1 with e1
    subst e0 e1
    exact q v H' s' a', fun mb => absurd (mb.symm.trans ok.mach) (by decide)⟩
theorem scalO (o : Option Int) : scal (optV o) (optV o) = true := by cases o <;> rfl
theorem layS : (PyData.str "told").canLay0 = true ∧ (PyData.str "machine").canLay0 = true := by decide +kernel
theorem lay_str {x : Str} (h : (PyData.str x).canLay0 = true) : (py (.str x)).canLay0 = true := by rw [py]; exact h
theorem lay_pair {x : Str} {t : Th} (h : (PyData.str x).canLay0 = true) (l : (py t).canLay0 = true) : (py (.tup [.str x, t])).canLay0 = true :=
  lay_tup fun y m => by
    rcases List.mem_cons.mp m with rfl | m
    · exact lay_str h
    · rw [List.mem_singleton.mp m]; exact l
theorem dp_pair {x : Str} {t : Th} (h : dp t ≤ 60) : dp (.tup [.str x, t]) ≤ 64 := by
  show dpL [.str x, t] + 1 ≤ 64
  show max (dp (.str x)) (max (dp t) 0) + 1 ≤ 64
  have : dp (.str x) = 0 := rfl
  omega
theorem ne2 (x : V) : (!decide (x = x)) = false := by rw [decide_eq_true rfl]; rfl
theorem trues (n : Nat) : ((List.range n).map fun _ => V.bl true) = (List.replicate n true).map V.bl := by
  rw [List.map_const', List.length_range, List.map_replicate]
theorem trues_all (n : Nat) : (List.replicate n true).all id = true := by
  rw [List.all_eq_true]
  intro x m
  rw [List.eq_of_mem_replicate m]
  rfl
theorem keep_all {z : Int} {rows : List Th} (ok : MOk z rows) (h : lvE rows 0) : ∀ s, s < (trimL z rows).length → lv (trimL z rows) s := fun s hs => by
  have hk : keep rows ≠ [] := fun e => by
    have := keep_zero ok.n1 h
    rw [e] at this
    cases this
  have hl : (trimL z rows).length = (keep rows).length := by unfold trimL; rw [if_neg hk, List.length_map]
  have hm : s ∈ keep (trimL z rows) := by rw [keep_trim ok hk, List.mem_range, ← hl]; exact hs
  exact (mem_keep.mp hm).2
theorem mach_inj {z z' : Int} {rows rows' : List Th} (e1 : (Th.tup [.int z, .tup rows]) = .tup [.int z', .tup rows']) : z = z' ∧ rows = rows' := by
  injection e1 with e1; injection e1 with e0 e1; injection e0 with e0; injection e1 with e1 _; injection e1 with e1
  exact ⟨e0, e1⟩
end KL
end
section
set_option maxHeartbeats 1000000
namespace KL
open PySem PySem.Spec PyProof.Rows L2
/-! ### comprehensions whose step draws -/
theorem lc_wellW {J : It} {n : Nat} {G : Hp → Prop} {Y : Nat → Hp → V → Hp → Prop} {X : Nat → V → Prop} {W c : Addr} {H : Hp} {Z : Zone} {Gd : Nat → Th → Prop} {i : Nat} {own : List Nat} {te : TE} {σ : L2.St} {Q : Addr → Hp → Prop}
    (w : Walk J n G Y) (hY : ∀ j H1 x H2, Y j H1 x H2 → H2 = H1 ∧ X j x) (hG : ∀ H', SB (At1 W) H H' → G H') (hn : n ≤ 1000000) (hw : ∀ x, wipe ((wipe σ own).set i (some x)) own = wipe σ own) (hW : WellAt W c H) (zW : Z W) (hZ : ∀ a, Z a → Trk H a)
    (hs : ∀ D, H D = none → ∀ j x H2, j < n → X j x → SB (At1 W) H H2 → WellAt W c H2 → (∀ a, (a = D ∨ Z a) → Trk H2 a) → ∀ R : VK, (∀ v t H3, SB (At1 W) H2 H3 → WellAt W c H3 → At (fun a => a = D ∨ Z a) H3 t v → Gd j t → R v H3) → te ((wipe σ own).set i (some x)) H2 R)
    (hd : ∀ D H' vs ts, SB (At1 W) H H' → WellAt W c H' → H D = none → H' D = some (.lst vs) → AtAll (fun a => a = D ∨ Z a) H' ts vs → ts.length = n → (∀ j t, ts[j]? = some t → Gd j t) → Q D H') : ∀ D, H D = none → LcG J (gName i) tYes te own σ H D (Q D) := by
  intro D hD
  have nDW : D ≠ W := fun e => by rw [e] at hD; exact hW.trk hD
  refine lc_it w (fun j H' => SB (At1 W) H H' ∧ WellAt W c H' ∧ ∃ vs ts, H' D = some (.lst vs) ∧ AtAll (fun a => a = D ∨ Z a) H' ts vs ∧ ts.length = j ∧ ∀ m t, ts[m]? = some t → Gd m t) ⟨.new hD _, hW.new hW hD _, [], [], upd_same, .nil, rfl, fun m t h => nomatch h⟩ (fun j H' _ q => hG H' q.1) (fun j x H1 H' hj q y => ?_) (fun H' q => ?_)
  · obtain ⟨rfl, ex⟩ := hY _ _ _ _ y
    obtain ⟨s1, w1, vs, ts, eD, aD, lD, gD⟩ := q
    have zz : ∀ a, (a = D ∨ Z a) → Trk H' a := fun a h => by
      rcases h with rfl | h
      · exact .of eD
      · exact .well s1 w1 (hZ a h)
    refine ⟨hw x, iteT (B := False) (hs D hD j x H' hj ex s1 w1 zz _ fun v t H3 s3 w3 a3 g3 => ?_)⟩
    have e3 : H3 D = some (.lst vs) := s3 D _ nDW eD
    refine ⟨vs, e3, by rw [aD.len, lD, sizeLine_eq]; omega, (s1.trans s3).upd_new hD _, w3.new hW hD _, vs ++ [v], ts ++ [t], upd_same, ?_, by rw [List.length_append, lD]; rfl, fun m u em => ?_⟩
    · have sD : SB (fun a => a = D ∨ Z a) H3 (upd H3 D (.lst (vs ++ [v]))) := .self (Z := fun a => a = D ∨ Z a) (.inl rfl) _
      exact AtAll.append ((aD.sb (s3.mono fun b e => .inr (by rw [show b = W from e]; exact zW))).sb sD) (.cons (a3.sb sD) .nil)
    · rcases get_snoc em with h | ⟨rfl, rfl⟩
      · exact gD m u h
      · rw [lD]; exact g3
  · obtain ⟨s1, w1, vs, ts, eD, aD, lD, gD⟩ := q
    exact hd D H' vs ts s1 w1 hD eD aD lD gD
theorem ints_of {Z : Zone} {H : Hp} {p : Int → Prop} : ∀ {ts : List Th} {vs : List V}, AtAll Z H ts vs → (∀ t ∈ ts, ∃ i, t = .int i ∧ p i) → ∃ ns : List Int, vs = ns.map V.int ∧ ns.length = ts.length ∧ ∀ i ∈ ns, p i
  | [], _, h, _ => ⟨[], by rw [show _ = [] from h]; rfl, rfl, fun i m => nomatch m⟩
  | t :: ts, _, ⟨u, us, e, h1, h2⟩, g => by
    obtain ⟨i, rfl, pi⟩ := g t List.mem_cons_self
    obtain ⟨ns, rfl, l, q⟩ := ints_of h2 fun t m => g t (List.mem_cons_of_mem _ m)
    cases (show u = .int i from h1)
    refine ⟨i :: ns, e, by rw [List.length_cons, List.length_cons, l], fun j m => ?_⟩
    rcases List.mem_cons.mp m with rfl | m
    · exact pi
    · exact q j m
theorem AtAll.set {Z : Zone} {H : Hp} {d : Th} {v : V} (h : At Z H d v) : ∀ {ds : List Th} {vs : List V} (i : Nat), AtAll Z H ds vs → AtAll Z H (ds.set i d) (vs.set i v)
  | [], _, _, a => by rw [show _ = [] from a]; exact .nil
  | _ :: _, _, 0, ⟨u, us, e, h1, h2⟩ => by subst e; exact .cons h h2
  | _ :: _, _, i + 1, ⟨u, us, e, h1, h2⟩ => by subst e; exact .cons h1 (AtAll.set h i h2)
theorem AtAll.rep {Z : Zone} {H : Hp} {d : Th} {v : V} (h : At Z H d v) : ∀ n : Nat, AtAll Z H (List.replicate n d) (List.replicate n v)
  | 0 => .nil
  | n + 1 => .cons h (AtAll.rep h n)
/-- a thing that needs no place -/
def bare : Th → Bool
  | .non | .bl _ | .int _ | .str _ => true
  | _ => false
theorem At.bare {Z Z' : Zone} {H H' : Hp} {t : Th} {v : V} (h : At Z H t v) (b : bare t = true) : At Z' H' t v := by
  cases t <;> first | exact h | cases b
theorem filt_ns (p : Nat → Bool) (n : Nat) : ((List.range n).filter p).map nV = ((List.range n).filter p).map (fun j => nV j) := rfl
/-! ### slices of tuples of things, exactly -/
def cutT (ds : List Th) (lo hi : Option Int) : List Th := (ds.drop (HT.sIx ds.length 0 lo)).take (HT.sIx ds.length ds.length hi - HT.sIx ds.length 0 lo)
theorem cutT_to (ds : List Th) (n : Nat) : cutT ds none (some (n : Int)) = ds.take n := by
  unfold cutT
  rw [HT.sIx_nat, HT.sIx_none, List.drop_zero, Nat.sub_zero]
  by_cases h : n ≤ ds.length
  · rw [Nat.min_eq_left h]
  · rw [Nat.min_eq_right (by omega), List.take_length, List.take_of_length_le (by omega)]
theorem cutT_from (ds : List Th) (n : Nat) : cutT ds (some (n : Int)) none = ds.drop n := by
  unfold cutT
  rw [HT.sIx_nat, HT.sIx_none]
  by_cases h : n ≤ ds.length
  · rw [Nat.min_eq_left h, List.take_of_length_le (by rw [List.length_drop]; exact Nat.le_refl _)]
  · rw [Nat.min_eq_right (by omega), List.drop_length, List.drop_eq_nil_of_le (by omega), List.take_nil]
def rSlX (K : PySem.W.Frag) : V → Option Int → Option Int → Hp → VK → Prop := fun x lo hi H Q => ∃ W ds, At (At1 W) H (.tup ds) x ∧ Trk H W ∧ ∀ v H', Same H H' → At (At1 W) H' (.tup (cutT ds lo hi)) v → Q v H'
section
variable {X : Cx}
theorem sl_exact : SlR X (rSlX X.K) := by
  intro pins s σ H x v vl vu lo hi sl Q I rx hs pl pu h
  refine sl_tupA pins s σ H x v vl vu lo hi sl Q I rx hs pl pu ?_
  obtain ⟨W, ds, h, hW, q⟩ := h
  obtain ⟨a, vs, rfl, na, e, ha⟩ := id h
  refine ⟨a, vs, rfl, .of e, fun hh => ?_, fun _ p hp => ?_⟩
  · rw [ha.len] at hh
    have e2 : cutT ds lo hi = ds := by unfold cutT; rw [hh.1, hh.2]; simp
    have q2 := q (.ref a) H (Same.refl H)
    rw [e2] at q2
    exact q2 h
  · have sp := same_new hp (.tup (cutV vs lo hi))
    refine q _ _ sp ⟨p, _, rfl, ne_new hW hp, upd_same, ?_⟩
    unfold cutT
    rw [← ha.len]
    exact ((ha.drop _).take _).same sp
end
end KL
end
section
set_option maxHeartbeats 1000000
namespace KL
open PySem PySem.Spec PyProof.Rows L2
/-! ### steps that take nothing -/
def freeT : Th → Option Nat
  | .tup [.int m, .int s] => if m = 0 then some s.toNat else none
  | _ => none
def fnr (r : Th) : List Nat := (stepsOf r).filterMap freeT
def fns (rows : List Th) : List (List Nat) := rows.map fnr
theorem fns_len (rows : List Th) : (fns rows).length = rows.length := List.length_map _
theorem fns_get {rows : List Th} {i : Nat} {r : Th} (h : rows[i]? = some r) : (fns rows)[i]? = some (fnr r) := by
  unfold fns; rw [List.getElem?_map, h]; rfl
theorem fns_getD (rows : List Th) (i : Nat) : ((fns rows)[i]?).getD [] = fnr ((rows[i]?).getD .non) := by
  unfold fns
  rw [List.getElem?_map]
  cases rows[i]? <;> rfl
/-- by one step or more that take nothing -/
abbrev FR (rows : List Th) (a b : Nat) : Prop := RS (fns rows) (((fns rows)[a]?).getD []) b
theorem freeT_lt {n : Int} {st : Th} {t : Nat} (h : StepIs n st) (e : freeT st = some t) : (t : Int) < n := by
  rcases h with rfl | ⟨m, s, rfl, m0, m1, s0, s1⟩
  · cases e
  · have e' : (if m = 0 then some s.toNat else none) = some t := e
    split at e'
    · have := Option.some.inj e'; omega
    · cases e'
theorem fn_lt {z : Int} {rows : List Th} (ok : MOk z rows) {i t : Nat} (m : t ∈ ((fns rows)[i]?).getD []) : t < rows.length := by
  rw [fns_getD] at m
  cases hs : rows[i]? with
  | none => rw [hs] at m; cases m
  | some r =>
    have hlt := (List.getElem?_eq_some_iff.mp hs).1
    obtain ⟨e, ss, er, h1, h2, h3⟩ := ok.row hlt
    rw [er] at m
    obtain ⟨st, ms, et⟩ := List.mem_filterMap.mp m
    have := freeT_lt (h3 st ms) et
    omega
theorem FR.lt {z : Int} {rows : List Th} (ok : MOk z rows) {a b : Nat} (h : FR rows a b) : b < rows.length := by
  cases h with
  | base m => exact fn_lt ok m
  | step _ m => exact fn_lt ok m
/-- letters led by steps that take nothing -/
def fwalk (rows : List Th) : Nat → List Th → Option Nat
  | s, [] => some s
  | s, l :: ls => match stepAt rows s (num l).toNat with
    | .tup [.int d, .int s'] => if d = 0 then fwalk rows s'.toNat ls else none
    | _ => none
theorem free_nx {rows : List Th} {s l : Nat} {s' : Int} (h : stepAt rows s l = .tup [.int 0, .int s']) : s'.toNat ∈ ((fns rows)[s]?).getD [] := by
  rw [fns_getD]
  unfold stepAt at h
  cases e : (stepsOf ((rows[s]?).getD .non))[l]? with
  | none => rw [e] at h; cases h
  | some x =>
    rw [e] at h
    have h' : x = .tup [.int 0, .int s'] := h
    subst h'
    exact List.mem_filterMap.mpr ⟨_, List.mem_of_getElem? e, rfl⟩
theorem fwalk_app (rows : List Th) : ∀ (ls ks : List Th) (a b : Nat), fwalk rows a ls = some b → fwalk rows a (ls ++ ks) = fwalk rows b ks
  | [], ks, a, b, h => by rw [show a = b from Option.some.inj h]; rfl
  | l :: ls, ks, a, b, h => by
    rw [List.cons_append, fwalk]
    rw [fwalk] at h
    split at h
    · next d s' e =>
      split at h
      · next hd =>
        rw [if_pos hd]
        exact fwalk_app rows ls ks _ b h
      · cases h
    · cases h
theorem fwalk_one {rows : List Th} {s l : Nat} {s' : Int} (h : stepAt rows s l = .tup [.int 0, .int s']) : fwalk rows s [.int (l : Nat)] = some s'.toNat := by
  rw [fwalk, show (num (.int (l : Nat))).toNat = l from Int.toNat_natCast l, h]
  show (if (0 : Int) = 0 then fwalk rows s'.toNat [] else none) = _
  rw [if_pos rfl]
  rfl
theorem fwalk_FR (rows : List Th) : ∀ (ls : List Th) (a b : Nat), fwalk rows a ls = some b → a = b ∧ ls = [] ∨ FR rows a b
  | [], a, b, h => .inl ⟨Option.some.inj h, rfl⟩
  | l :: ls, a, b, h => by
    right
    rw [fwalk] at h
    split at h
    · next d s' e =>
      split at h
      · next hd =>
        subst hd
        have m := free_nx e
        rcases fwalk_FR rows ls _ _ h with ⟨e1, _⟩ | r
        · rw [← e1]; exact .base m
        · have : ∀ x, RS (fns rows) (((fns rows)[s'.toNat]?).getD []) x → FR rows a x := fun x r => by
            induction r with
            | base m2 => exact .step (.base m) m2
            | step _ m2 ih => exact .step ih m2
          exact this b r
      · cases h
    · cases h
/-- what a ring is -/
def ringT (z : Int) (rows : List Th) : Th → Bool
  | .tup [a, .tup ls] => inn 0 ((rows.length : Int) - 1) a && textB z (.tup ls) && !ls.isEmpty && decide (fwalk rows (num a).toNat ls = some (num a).toNat)
  | _ => false
theorem ringT_not {z : Int} {rows : List Th} {d : Th} (h : isPair d = false) : ringT z rows d = false := by
  cases d with
  | tup xs =>
    match xs, h with
    | [], _ => rfl
    | [_], _ => rfl
    | [_, _], h => cases h
    | a :: b :: c :: r, _ => cases b <;> rfl
  | _ => rfl
theorem ringT_text {z : Int} {rows : List Th} {a b : Th} (h : textB z b = false) : ringT z rows (.tup [a, b]) = false := by
  cases b with
  | tup ls => rw [ringT, h, Bool.and_false, Bool.false_and, Bool.false_and]
  | _ => rfl
theorem ringT_in {z : Int} {rows : List Th} {a b : Th} (h : inn 0 ((rows.length : Int) - 1) a = false) : ringT z rows (.tup [a, b]) = false := by
  cases b with
  | tup ls => rw [ringT, h, Bool.false_and, Bool.false_and, Bool.false_and]
  | _ => rfl
theorem ringT_FR {z : Int} {rows : List Th} {s : Nat} {ls : List Th} (h : ringT z rows (.tup [.int (s : Nat), .tup ls]) = true) : FR rows s s ∧ s < rows.length := by
  rw [ringT, Bool.and_eq_true, Bool.and_eq_true, Bool.and_eq_true, decide_eq_true_eq] at h
  obtain ⟨⟨⟨h1, h2⟩, h3⟩, h4⟩ := h
  rw [show (num (.int (s : Nat))).toNat = s from Int.toNat_natCast s] at h4
  obtain ⟨i, e, i0, i1⟩ := inn_int h1
  injection e with e
  refine ⟨?_, by omega⟩
  rcases fwalk_FR rows ls s s h4 with ⟨_, e⟩ | r
  · rw [e] at h3; cases h3
  · exact r
theorem ringT_of {z : Int} {rows : List Th} {s : Nat} {ls : List Th} (hs : s < rows.length) (hl : textB z (.tup ls) = true) (hn : ls ≠ []) (hw : fwalk rows s ls = some s) : ringT z rows (.tup [.int (s : Nat), .tup ls]) = true := by
  rw [ringT, inn, decide_eq_true (show (0 : Int) ≤ (s : Int) by omega), decide_eq_true (show (s : Int) ≤ (rows.length : Int) - 1 by omega), hl, show (num (.int (s : Nat))).toNat = s from Int.toNat_natCast s, decide_eq_true hw]
  cases ls with
  | nil => exact absurd rfl hn
  | cons a b => rfl
noncomputable def ringB (rows : List Th) (s : Nat) : Bool := @decide (FR rows s s) (Classical.propDecidable _)
theorem ringB_iff {rows : List Th} {s : Nat} : ringB rows s = true ↔ FR rows s s := by
  unfold ringB; exact @decide_eq_true_iff (FR rows s s) (Classical.propDecidable _)
/-- a walk by turns from any starts -/
structure RJ (ways : List (List Nat)) (starts : List Nat) (i : Nat) (fs : List Nat) : Prop where
  nd : fs.Nodup
  mb : ∀ s ∈ starts, s ∈ fs
  snd : ∀ x ∈ fs, RS ways starts x
  clo : ∀ (j x : Nat), j < i → fs[j]? = some x → ∀ t ∈ (ways[x]?).getD [], t ∈ fs
section
variable {ways : List (List Nat)} {starts : List Nat} {i n x : Nat} {fs fr : List Nat}
theorem RJ.done (h : RJ ways starts n fs) (hl : fs.length ≤ n) (x : Nat) : x ∈ fs ↔ RS ways starts x := by
  refine ⟨h.snd x, fun r => ?_⟩
  induction r with
  | base m => exact h.mb _ m
  | step r m ih =>
    obtain ⟨j, ej⟩ := List.mem_iff_getElem?.mp ih
    have lj := (List.getElem?_eq_some_iff.mp ej).1
    exact h.clo j _ (by omega) ej _ m
theorem RJ.skip (h : RJ ways starts i fs) (hi : fs.length ≤ i) : RJ ways starts (i + 1) fs where
  nd := h.nd
  mb := h.mb
  snd := h.snd
  clo := fun j x hj ej => h.clo j x (by have := (List.getElem?_eq_some_iff.mp ej).1; omega) ej
theorem RJ.more (h : RJ ways starts i fs) (ex : fs[i]? = some x) (nd : fr.Nodup) (hr : ∀ y, y ∈ fr ↔ y ∈ (ways[x]?).getD [] ∧ y ∉ fs) : RJ ways starts (i + 1) (fs ++ fr) where
  nd := List.nodup_append.mpr ⟨h.nd, nd, fun a ma c mc e => by
    subst e
    exact ((hr a).mp mc).2 ma⟩
  mb := fun s m => List.mem_append_left _ (h.mb s m)
  snd := fun y m => by
    rcases List.mem_append.mp m with m | m
    · exact h.snd y m
    · exact .step (h.snd x (List.mem_of_getElem? ex)) ((hr y).mp m).1
  clo := fun j y hj ej t mt => by
    have hi := (List.getElem?_eq_some_iff.mp ex).1
    rw [List.getElem?_append_left (by omega)] at ej
    by_cases e : j = i
    · subst e
      rw [ex] at ej
      cases ej
      by_cases hm : t ∈ fs
      · exact List.mem_append_left _ hm
      · exact List.mem_append_right _ ((hr t).mpr ⟨mt, hm⟩)
    · exact List.mem_append_left _ (h.clo j y (by omega) ej t mt)
end
end KL
end
section
set_option maxHeartbeats 1000000
namespace KL
open PySem PySem.Spec PyProof.Rows L2
def spFNexts : Sp := fun vs H Q _ => ∃ (Z : Zone) (r : Th) (v : V) (z n : Int), vs = [v] ∧ At Z H r v ∧ rowB z n r = true ∧ z ≤ 8 ∧ ∀ N H', Same H H' → H N = none → H' N = some (.lst ((fnr r).map nV)) → Q (.ref N) H'
def spFFrom : Sp := fun vs H Q _ => ∃ (Z : Zone) (pr : Addr) (us : List V) (z : Int) (rows : List Th) (b : Nat), vs = [.ref pr, .int (b : Nat)] ∧ H pr = some (.tup us) ∧ AtAll Z H rows us ∧ MOk z rows ∧ b < rows.length ∧ ∀ (N : Addr) (fs : List Nat) (H' : Hp), Same H H' → H N = none → H' N = some (.lst (fs.map nV)) → fs.Nodup → (∀ x, x ∈ fs ↔ FR rows b x) → Q (.ref N) H'
def spIdles : Sp := fun vs H Q _ => ∃ (Z : Zone) (pr : Addr) (us : List V) (z : Int) (rows : List Th), vs = [.ref pr] ∧ H pr = some (.tup us) ∧ AtAll Z H rows us ∧ MOk z rows ∧ ∀ (N : Addr) (H' : Hp), Same H H' → H' N = some (.lst (((List.range rows.length).filter (ringB rows)).map nV)) → Q (.ref N) H'
theorem free_one {st : Th} {m s : Int} (e : st = .tup [.int m, .int s]) : [st].filterMap freeT = if m = 0 then [s.toNat] else [] := by
  subst e
  by_cases h : m = 0 <;> simp [freeT, h]
section
variable {P : Program} {w : World} {K : PySem.W.Frag} {mg : Str → Option Value} {base : Heap} {k : Nat}
end
end KL
end
section
set_option maxHeartbeats 1000000
namespace KL
open PySem PySem.Spec PyProof.Rows L2
abbrev pairT (q : Nat × List Th) : Th := .tup [.int (q.1 : Nat), .tup q.2]
abbrev sts (wl : List (Nat × List Th)) : List Nat := (wl.drop 1).map (·.1)
/-- the states found by steps that take nothing, with the letters to them -/
structure WR (z : Int) (rows : List Th) (s i : Nat) (wl : List (Nat × List Th)) (S : Int → Bool) : Prop where
  hd : wl[0]? = some (s, [])
  pth : ∀ q ∈ wl, fwalk rows s q.2 = some q.1 ∧ Lets z q.2 ∧ q.2.length < wl.length ∧ q.1 < rows.length
  nd : (sts wl).Nodup
  seen : ∀ t : Nat, S (t : Int) = true ↔ t ∈ sts wl
  ns : s ∉ sts wl
  clo : ∀ (j : Nat) q, j < i → wl[j]? = some q → ∀ t ∈ ((fns rows)[q.1]?).getD [], t ≠ s ∧ t ∈ sts wl
section
variable {z : Int} {rows : List Th} {s i : Nat} {wl : List (Nat × List Th)} {S : Int → Bool}
theorem WR.pos (h : WR z rows s i wl S) : 1 ≤ wl.length := (List.getElem?_eq_some_iff.mp h.hd).1
theorem WR.len (h : WR z rows s i wl S) : wl.length ≤ rows.length + 1 := by
  have l1 : (sts wl).length ≤ rows.length := nd_len h.nd fun x m => by
    obtain ⟨q, mq, rfl⟩ := List.mem_map.mp m
    exact (h.pth q (List.mem_of_mem_drop mq)).2.2.2
  rw [List.length_map, List.length_drop] at l1
  omega
theorem sts_app {wl : List (Nat × List Th)} (h : 1 ≤ wl.length) (q : Nat × List Th) : sts (wl ++ [q]) = sts wl ++ [q.1] := by
  unfold sts
  rw [List.drop_append_of_le_length h, List.map_append]
  rfl
theorem WR.add (h : WR z rows s i wl S) {t : Nat} {ls : List Th} (hs : t ≠ s) (nt : t ∉ sts wl) (hw : fwalk rows s ls = some t) (hL : Lets z ls) (hl : ls.length ≤ wl.length) (lt : t < rows.length) (hi : i ≤ wl.length) : WR z rows s i (wl ++ [(t, ls)]) (fun j => S j || decide (j = (t : Int))) where
  hd := by rw [List.getElem?_append_left h.pos]; exact h.hd
  pth := fun q m => by
    rw [List.length_append, List.length_singleton]
    rcases List.mem_append.mp m with m | m
    · obtain ⟨a, b, c, d⟩ := h.pth q m
      exact ⟨a, b, by omega, d⟩
    · rw [List.mem_singleton.mp m]
      exact ⟨hw, hL, by show ls.length < _; omega, lt⟩
  nd := by
    rw [sts_app h.pos]
    refine List.nodup_append.mpr ⟨h.nd, by simp, fun a ma b mb e => ?_⟩
    rw [List.mem_singleton.mp mb] at e
    subst e
    exact nt ma
  seen := fun u => by
    rw [sts_app h.pos, List.mem_append, List.mem_singleton, Bool.or_eq_true, h.seen u, decide_eq_true_eq]
    show _ ∨ _ ↔ _ ∨ u = t
    constructor
    · rintro (a | a)
      · exact .inl a
      · exact .inr (by omega)
    · rintro (a | a)
      · exact .inl a
      · exact .inr (by omega)
  ns := by
    rw [sts_app h.pos, List.mem_append, List.mem_singleton]
    rintro (a | a)
    · exact h.ns a
    · exact hs a.symm
  clo := fun j q hj eq u mu => by
    rw [sts_app h.pos]
    by_cases hjl : j < wl.length
    · rw [List.getElem?_append_left hjl] at eq
      obtain ⟨a, b⟩ := h.clo j q hj eq u mu
      exact ⟨a, List.mem_append_left _ b⟩
    · omega
theorem WR.none (h : WR z rows s i wl S) (hi : wl.length ≤ i) : ¬ FR rows s s := fun r => by
  have all : ∀ x, FR rows s x → x ≠ s ∧ x ∈ sts wl := fun x r => by
    induction r with
    | base m => exact h.clo 0 (s, []) (by have := h.pos; omega) h.hd _ m
    | step r m ih =>
      obtain ⟨q, mq, e⟩ := List.mem_map.mp ih.2
      obtain ⟨j, ej⟩ := List.mem_iff_getElem?.mp (List.mem_of_mem_drop mq)
      have lj := (List.getElem?_eq_some_iff.mp ej).1
      refine h.clo j q (by omega) ej _ ?_
      rw [e]
      exact m
  exact (all s r).1 rfl
end
def spRound : Sp := fun vs H Q _ => ∃ (Z : Zone) (pr : Addr) (us : List V) (z : Int) (rows : List Th) (s : Nat), vs = [.ref pr, .int (s : Nat)] ∧ H pr = some (.tup us) ∧ AtAll Z H rows us ∧ MOk z rows ∧ s < rows.length ∧
  (∀ (v : V) (H' : Hp) (ls : List Th), Same H H' → At (Trk H) H' (.tup ls) v → Lets z ls → ls ≠ [] → ls.length ≤ 100 → fwalk rows s ls = some s → Q v H') ∧ (¬ FR rows s s → ∀ H', Same H H' → Q .non H')
section
variable {P : Program} {w : World} {K : PySem.W.Frag} {mg : Str → Option Value} {base : Heap} {k : Nat}
end
end KL
end
section
set_option maxHeartbeats 1000000
namespace KL
open PySem PySem.Spec PyProof.Rows L2
def spIdle (CM : Addr) : Sp := fun vs H Q E => ∃ (Z : Zone) (u : V) (e : Th), vs = [u] ∧ At Z H e u ∧ shortT e = true ∧
  (∀ z rows, e = .tup [.int z, .tup rows] → MOk z rows → (∀ v H' (s : Nat) ls, Same H H' → At (Trk H) H' (pairT (s, ls)) v → s < (trimL z rows).length → Lets z ls → ls ≠ [] → ls.length ≤ 100 → fwalk (trimL z rows) s ls = some s → Q v H') ∧ ((∀ s, s < (trimL z rows).length → ¬ FR (trimL z rows) s s) → ∀ H', Same H H' → Q .non H')) ∧
  (machB e = false → ∀ H', Same H H' → E (.ref CM) none H')
def spIsRing : Sp := fun vs H Q _ => ∃ (Z : Zone) (u v : V) (z : Int) (rows : List Th) (d : Th), vs = [u, v] ∧ At Z H (.tup [.int z, .tup rows]) u ∧ MOk z rows ∧ At Z H d v ∧ shortT d = true ∧ ∀ H', Same H H' → Q (.bl (ringT z rows d)) H'
def spIsIdle (CM : Addr) : Sp := fun vs H Q E => ∃ (Z : Zone) (u v : V) (e d : Th), vs = [u, v] ∧ At Z H e u ∧ At Z H d v ∧ shortT e = true ∧ shortT d = true ∧
  (∀ z rows, e = .tup [.int z, .tup rows] → MOk z rows → ∀ H', Same H H' → Q (.bl (ringT z (trimL z rows) d)) H') ∧ (machB e = false → ∀ H', Same H H' → E (.ref CM) none H')
/-- a def of a machine and a thing: it tells something, or that there is no machine -/
def spW (CM : Addr) : Sp := fun vs H Q E => ∃ (Z : Zone) (u v : V) (e d : Th), vs = [u, v] ∧ At Z H e u ∧ At Z H d v ∧ shortT e = true ∧ shortT d = true ∧ (machB e = true → ∀ x H', Same H H' → Q x H') ∧ (machB e = false → ∀ H', Same H H' → E (.ref CM) none H')
def spWord (P : Program) (w : World) (K : PySem.W.Frag) (mg : Str → Option Value) (base : Heap) (k : Nat) (CM : Addr) : Sp := fun vs H Q _ => ∃ (g : Addr) (Z : Zone) (u v : V) (e d : Th), vs = [.ref g, u, v] ∧ (∃ fd ps, FnOk P w K mg base (L2.CX P w) k g fd ps (spW CM) ∧ PySem.W.keepIn K (.ref g) = true ∧ Binds K fd ps []) ∧ At Z H e u ∧ At Z H d v ∧ shortT e = true ∧ shortT d = true ∧
  ∀ p x H', Same H H' → H' p = some (.tup [.str (if machB e = true then "told" else "machine"), x]) → Q (.ref p) H'
def tCallSL (i : Nat) (f : Addr) (sp : Sp) (E : L2.St → XK) (t : TA) : TE := fun σ H Q => σ[i]? = some (some (.ref f)) ∧ t σ H fun vs H1 => sp vs H1 Q (E σ)
section
variable {X : Cx} {k i : Nat} {f : Addr} {fd : FuncData} {x : Str} {ps : List Str} {sp : Sp} {e : Expr} {es : List Expr} {t : TA} {p pos : Pos} {W : WX}
/-- a call of a local name that holds a def that may raise, within a try -/
theorem pe_calSL (F : FnOk X.prog X.w X.K X.mg X.base (L2.CX X.prog X.w) k f fd ps sp) (hr : Room k X.A) (hN : X.N[i]? = some x) (hv : Vis X.env.scope x) (hk : PySem.W.keepIn X.K (.ref f) = true) (hb : Binds X.K fd ps []) (tk : Takes X W) (ha : PA X (e :: es) t)
    (hdb : (x == ("__debug__" : Str)) = false := by decide) (hcd : (x == ("__classdict__" : Str)) = false := by decide)
    (he : starEach (e :: es) X.env = (false, eval e X.env) :: starEach es X.env := by rfl) (hpl : (backTo pos (starEach es X.env)).any (·.1) = false := by rfl) : PE X (.Call (.Name x p) (e :: es) [] pos) (tCallSL i f sp (WE W) t) := by
  refine ⟨fun pins s σ H Q I h => ?_⟩
  obtain ⟨hs, ht⟩ := h
  refine wpAny_Call_Name_kw (thn ((pe_var (pos := p) hN hv hdb hcd).run pins s σ H (fun v H1 => v = .ref f ∧ H1 = H) I ⟨.ref f, hs, rfl, rfl⟩) fun u s1 ⟨v, H1, I1, r1, q1⟩ => ?_)
  obtain ⟨rfl, rfl⟩ := q1
  cases r1
  refine PySem.W.callWith_K (h₀ := X.base) I.ok.mod.kin hk (thn (ha.run pos pins s1 σ _ _ I1 ht) fun us s2 ⟨vs, H2, I2, r, q⟩ => ⟨I2.kIn, ?_⟩) he hpl
  exact run_fnS F hr hb (passAt tk σ) I2 r q
end
theorem some_dec (s t : Nat) : decide (V.int (s : Int) = V.int (t : Int)) = decide ((some s : Option Nat) = some t) := decide_eq_decide.mpr ⟨fun e => by injection e with e; congr 1; omega, fun e => by injection e with e; rw [e]⟩
theorem ringT_eq {z : Int} {rows : List Th} {s : Nat} {ls : List Th} (hs : s < rows.length) (hl : textB z (.tup ls) = true) (hn : ls ≠ []) : ringT z rows (.tup [.int (s : Nat), .tup ls]) = decide (fwalk rows s ls = some s) := by
  rw [ringT, inn, decide_eq_true (show (0 : Int) ≤ (s : Int) by omega), decide_eq_true (show (s : Int) ≤ (rows.length : Int) - 1 by omega), hl, show (num (.int (s : Nat))).toNat = s from Int.toNat_natCast s]
  cases ls with
  | nil => exact absurd rfl hn
  | cons a b => rw [show (!(a :: b).isEmpty) = true from rfl, Bool.true_and, Bool.true_and, Bool.true_and, Bool.true_and]
section
variable {P : Program} {w : World} {K : PySem.W.Frag} {mg : Str → Option Value} {base : Heap} {k : Nat}
theorem lay_lets {z : Int} {ls : List Th} (h : Lets z ls) : (py (.tup ls)).canLay0 = true := lay_tup fun x m => by
  obtain ⟨i, rfl, _⟩ := h x m
  exact lay_int i
theorem dp_lets {z : Int} : ∀ {ls : List Th}, Lets z ls → dpL ls = 0
  | [], _ => rfl
  | x :: xs, h => by
    obtain ⟨i, rfl, _⟩ := h x List.mem_cons_self
    rw [dpL, dp_lets fun y m => h y (List.mem_cons_of_mem _ m)]
    rfl
theorem eqv_ls (ls : List Th) : PyData.eqv (py (.tup ls)) (py (.tup [])) = ls.isEmpty := by
  cases ls with
  | nil => rw [py, pyL]; simp [PyData.eqv, PyData.eqvAll]
  | cons a b => rw [py, py, pyL, pyL]; simp [PyData.eqv, PyData.eqvAll]
end
end KL
end
section
set_option maxHeartbeats 1000000
namespace KL
open PySem PySem.Spec PyProof.Rows L2
/-- fractions that are not too great -/
def SmallF (dd : Th) : Prop := ∀ fs, dd = .tup fs → (∀ f ∈ fs, fracB f = true) → (∀ f ∈ fs, (topI f).natAbs < 2 ^ 4100) ∧ ∃ D : Nat, 0 < D ∧ D < 2 ^ 8900 ∧ ∀ f ∈ fs, (botI f).natAbs ∣ D
def spIsW (CM : Addr) : Sp := fun vs H Q E => ∃ (Z : Zone) (u v : V) (e dd : Th), vs = [u, v] ∧ At Z H e u ∧ At Z H dd v ∧ shortT e = true ∧ shortT dd = true ∧
  (∀ z rows, e = .tup [.int z, .tup rows] → MOk z rows → SmallF dd ∧ ∀ H', Same H H' → (PosR (trimL z rows) → dd = wosT (trimL z rows) → Q (.bl true) H') ∧ (¬ (PosR (trimL z rows) ∧ dd = wosT (trimL z rows)) → Q (.bl false) H')) ∧ (machB e = false → ∀ H', Same H H' → E (.ref CM) none H')
section
variable {P : Program} {w : World} {K : PySem.W.Frag} {mg : Str → Option Value} {base : Heap} {k : Nat} {t1 t2 t3 : Tok}
end
end KL
end
section
set_option maxHeartbeats 1000000
namespace KL
open PySem PySem.Spec PyProof.Rows L2
abbrev sc_law_drawN : List Str := ["_law_pot_here", "_law_many", "_law_turn", "_law_number", "_law_seed"]
abbrev s_law_draw : Stmt := topS 36
theorem sc_law_draw : FnScope ["_law_pot_here", "_law_many", "_law_turn", "_law_number", "_law_seed"] ["_law_pot_here", "_law_many"] (defScope s_law_draw) := ⟨rfl, rfl, rfl, by decide +kernel, rfl, by decide +kernel, by decide +kernel⟩
abbrev sc_law_anyN : List Str := ["_law_pot_here", "_law_items"]
abbrev s_law_any : Stmt := topS 37
theorem sc_law_any : FnScope ["_law_pot_here", "_law_items"] ["_law_pot_here", "_law_items"] (defScope s_law_any) := ⟨rfl, rfl, rfl, by decide +kernel, rfl, by decide +kernel, by decide +kernel⟩
/-- a pot: the great cells, the small ones, how many were drawn, a number -/
structure PotAt (P G S : Addr) (H : Hp) : Prop where
  ex : ∃ (gs ss : List Int) (t s : Int), H P = some (.lst [.ref G, .ref S, .int t, .int s]) ∧ H G = some (.lst (gs.map V.int)) ∧ H S = some (.lst (ss.map V.int)) ∧ G ≠ S ∧ 1 ≤ ss.length ∧ ss.length ≤ 64 ∧ (∀ x ∈ ss, 0 ≤ x ∧ x < 1000000007) ∧ 0 ≤ t ∧ 0 ≤ s ∧ s < 999983
theorem PotAt.ne {P G S : Addr} {H : Hp} (h : PotAt P G S H) : G ≠ P ∧ S ≠ P ∧ G ≠ S := by
  obtain ⟨gs, ss, t, s, e1, e2, e3, ne, l1, _⟩ := h.ex
  refine ⟨fun e => ?_, fun e => ?_, ne⟩
  · rw [e, e1] at e2
    injection e2 with e2; injection e2 with e2
    cases gs <;> cases e2
  · rw [e, e1] at e3
    injection e3 with e3; injection e3 with e3
    cases ss <;> cases e3
abbrev AtP (P G : Addr) : Zone := fun a => a = P ∨ a = G
theorem PotAt.same {P G S : Addr} {H H' : Hp} (h : PotAt P G S H) (s : Same H H') : PotAt P G S H' := by
  obtain ⟨gs, ss, t, n, e1, e2, e3, r⟩ := h.ex
  exact ⟨gs, ss, t, n, s _ _ e1, s _ _ e2, s _ _ e3, r⟩
def spPDraw : Sp := fun vs H Q _ => ∃ (P G S : Addr) (m : Int), vs = [.ref P, .int m] ∧ PotAt P G S H ∧ 0 < m ∧ m < 1073741824 ∧ ∀ r H', 0 ≤ r → r < m → SB (AtP P G) H H' → PotAt P G S H' → Q (.int r) H'
def spPAny : Sp := fun vs H Q _ => ∃ (P G S a : Addr) (xs : List V), vs = [.ref P, .ref a] ∧ PotAt P G S H ∧ H a = some (.lst xs) ∧ a ≠ P ∧ a ≠ G ∧ 1 ≤ xs.length ∧ xs.length ≤ 1000 ∧ ∀ v H', v ∈ xs → SB (AtP P G) H H' → PotAt P G S H' → Q v H'
section
variable {P : Program} {w : World} {K : PySem.W.Frag} {mg : Str → Option Value} {base : Heap} {k : Nat} {t1 t2 t3 : Tok}
theorem ok_law_draw' (Z : Zs mg) (d : Def K mg "_law_draw" s_law_draw ["_law_pot_here", "_law_many"]) : Cal P w K mg base CX0 (k + 1) "_law_draw" ["_law_pot_here", "_law_many"] spPDraw := by
  refine d.ok sc_law_draw (fun vs H Q E h => ?_) (fun f cdv A outer s H vs Q E hr h => ?_)
  · obtain ⟨_, _, _, _, rfl, _⟩ := h; rfl
  obtain ⟨P0, G, S, m, rfl, hp, m0, m1, q⟩ := h
  refine ⟨_, (pss_cons (ps_set (i := 2) sc_law_draw.nd rfl (Or.inl rfl) (pe_ix ix_list (pv 0) pe_int (fun _ _ => rfl)))
      (pss_cons (ps_asg (pe_op op_add (pv 2) pe_int) (pg_sub (pv 0) pe_int set_list))
      (pss_cons (ps_if (pt_cmpR op_gt (pe_callB (id := "len") call_len_seq (by rfl) Z.len (by decide +kernel) (pa_cons (pe_ix ix_list (pv 0) pe_int (fun _ _ => rfl)) pa_nil)) pe_int (nomark _)) (pss_cons (ps_set (i := 3) sc_law_draw.nd rfl (Or.inl rfl) (pe_ix ix_list (pe_ix ix_list (pv 0) pe_int (fun _ _ => rfl)) pe_int (fun _ _ => rfl)))
      (pss_cons (ps_asg (pe_op op_fdiv (pv 3) (pv 1)) (pg_sub (pe_ix ix_list (pv 0) pe_int (fun _ _ => rfl)) pe_int set_list))
      (pss_cons (ps_if (pt_cmpR op_lt (pv 3) (pv 1) (nomark _)) (pss_one (ps_expr (pe_bm PySem.F.plainAttrs_list PySem.F.slot_list_pop PySem.F.type_list_pop mt_popAt (pe_ix ix_list (pv 0) pe_int (fun _ _ => rfl)) (pa_cons pe_int pa_nil)))) pss_nil)
      (pss_one (ps_ret (pe_op op_mod (pe_callTy (T := "int") call_int1 (by rfl) Z.int (by decide +kernel) (pa_cons (pv 3) pa_nil)) (pv 1))))))) pss_nil)
      (pss_cons (ps_set (i := 4) sc_law_draw.nd rfl (Or.inl rfl) (pe_op op_add (pe_op op_add (pe_op op_mul (pe_ix ix_list (pe_ix ix_list (pv 0) pe_int (fun _ _ => rfl)) (pe_op op_mod (pe_callTy (T := "int") call_int1 (by rfl) Z.int (by decide +kernel) (pa_cons (pv 2) pa_nil)) (pe_callB (id := "len") call_len_seq (by rfl) Z.len (by decide +kernel) (pa_cons (pe_ix ix_list (pv 0) pe_int (fun _ _ => rfl)) pa_nil))) (fun _ _ => rfl)) pe_int) (pe_op op_mul pe_int (pv 2))) (pe_op op_mul (pe_ix ix_list (pv 0) pe_int (fun _ _ => rfl)) pe_int)))
      (pss_cons (ps_set (i := 3) sc_law_draw.nd rfl (Or.inl rfl) (pe_op op_mod (pe_callTy (T := "int") call_int1 (by rfl) Z.int (by decide +kernel) (pa_cons (pe_op op_add (pe_op op_mul (pv 4) pe_int) pe_int) pa_nil)) pe_int))
      (pss_cons (ps_set (i := 3) sc_law_draw.nd rfl (Or.inl rfl) (pe_op op_mod (pe_callTy (T := "int") call_int1 (by rfl) Z.int (by decide +kernel) (pa_cons (pe_op op_mul (pv 3) (pe_op op_add (pe_op op_fdiv (pv 3) pe_int) pe_int)) pa_nil)) pe_int))
      (pss_cons (ps_set (i := 3) sc_law_draw.nd rfl (Or.inl rfl) (pe_op op_mod (pe_callTy (T := "int") call_int1 (by rfl) Z.int (by decide +kernel) (pa_cons (pe_op op_add (pe_op op_mul (pv 3) (pe_op op_add (pe_op op_fdiv (pv 3) pe_int) pe_int)) (pv 2)) pa_nil)) pe_int))
      (pss_one (ps_ret (pe_op op_mod (pe_callTy (T := "int") call_int1 (by rfl) Z.int (by decide +kernel) (pa_cons (pe_op op_fdiv (pv 3) pe_int) pa_nil)) (pv 1))))))))))), ?_⟩
  obtain ⟨nGP, nSP, nGS⟩ := hp.ne
  obtain ⟨gs, ss, t, sn, e1, e2, e3, _, l1, l64, hx, t0, sn0, sn1⟩ := hp.ex
  refine ⟨_, rfl, P0, _, 2, .int t, rfl, rfl, .inl (.of e1), rfl, ?_⟩
  refine ⟨_, rfl, _, _, rfl, rfl, _, rfl, P0, _, 2, 2, rfl, rfl, e1, rfl, ?_⟩
  have sb1 : SB (AtP P0 G) H (upd H P0 (.lst [.ref G, .ref S, .int (t + 1), .int sn])) := .self (Z := AtP P0 G) (.inl rfl) _
  have f1 : (upd H P0 (.lst [.ref G, .ref S, .int (t + 1), .int sn])) P0 = some (.lst [.ref G, .ref S, .int (t + 1), .int sn]) := upd_same
  have f2 : (upd H P0 (.lst [.ref G, .ref S, .int (t + 1), .int sn])) G = some (.lst (gs.map V.int)) := by rw [upd_ne nGP]; exact e2
  have f3 : (upd H P0 (.lst [.ref G, .ref S, .int (t + 1), .int sn])) S = some (.lst (ss.map V.int)) := by rw [upd_ne nSP]; exact e3
  show tSeq _ _ _ _ (upd H P0 (.lst [.ref G, .ref S, .int (t + 1), .int sn]))
  generalize upd H P0 (.lst [.ref G, .ref S, .int (t + 1), .int sn]) = H1 at *
  refine ⟨_, rfl, P0, _, 0, .ref G, rfl, rfl, .inl (.of f1), rfl, G, _, rfl, .inl (.of f2), _, _, rfl, rfl, _, rfl, iteB (fun e => ?_) (fun e => ?_)⟩
  · have lt := of_decide_eq_true e
    cases gs with
    | nil => exact absurd lt (by decide)
    | cons g gr =>
      refine ⟨_, rfl, P0, _, 0, .ref G, rfl, rfl, .inl (.of f1), rfl, G, _, 0, .int g, rfl, rfl, .inl (.of f2), atI_nat (j := 0) rfl, ?_⟩
      refine ⟨_, rfl, _, rfl, _, _, rfl, rfl, ⟨m0, m1⟩, _, rfl, P0, _, 0, .ref G, rfl, rfl, .inl (.of f1), rfl, G, _, 0, 0, rfl, rfl, f2, ixT (j := 0) (by show 0 < (gr.map V.int).length + 1; omega), ?_⟩
      have sb2 : SB (AtP P0 G) H1 (upd H1 G (.lst ((g / m :: gr).map V.int))) := .self (Z := AtP P0 G) (.inr rfl) _
      have h1 : (upd H1 G (.lst ((g / m :: gr).map V.int))) P0 = some (.lst [.ref G, .ref S, .int (t + 1), .int sn]) := by rw [upd_ne (fun h => nGP h.symm)]; exact f1
      have h2 : (upd H1 G (.lst ((g / m :: gr).map V.int))) G = some (.lst ((g / m :: gr).map V.int)) := upd_same
      have h3 : (upd H1 G (.lst ((g / m :: gr).map V.int))) S = some (.lst (ss.map V.int)) := by rw [upd_ne (fun h => nGS h.symm)]; exact f3
      show tSeq _ _ _ _ (upd H1 G (.lst ((g / m :: gr).map V.int)))
      generalize upd H1 G (.lst ((g / m :: gr).map V.int)) = H2 at *
      have r0 := Int.emod_nonneg g (show m ≠ 0 by omega)
      have r1 := Int.emod_lt_of_pos g m0
      refine ⟨_, rfl, _, rfl, _, _, rfl, rfl, _, rfl, iteB (fun e => ?_) (fun e => ?_)⟩
      · refine ⟨_, rfl, P0, _, 0, .ref G, rfl, rfl, .inl (.of h1), rfl, .inl ⟨rfl, _, .inl (.inl h2)⟩, G, _, 0, 0, _, rfl, rfl, h2, by decide, by decide, (by rw [seqIndex_of (by decide) (by show (0 : Int) < (((g / m :: gr).map V.int).length : Nat); rw [List.length_map, List.length_cons]; omega)]; rfl), rfl, ?_⟩
        exact ⟨_, rfl, .inl ⟨_, rfl, _, rfl, _, _, rfl, rfl, m0, q _ _ r0 r1 ((sb1.trans sb2).trans (.self (Z := AtP P0 G) (.inr rfl) _)) ⟨gr, ss, t + 1, sn, by rw [upd_ne (fun h => nGP h.symm)]; exact h1, by rw [upd_same]; rfl, by rw [upd_ne (fun h => nGS h.symm)]; exact h3, nGS, l1, l64, hx, by omega, sn0, sn1⟩⟩⟩
      · exact ⟨_, rfl, .inl ⟨_, rfl, _, rfl, _, _, rfl, rfl, m0, q _ _ r0 r1 (sb1.trans sb2) ⟨g / m :: gr, ss, t + 1, sn, h1, h2, h3, nGS, l1, l64, hx, by omega, sn0, sn1⟩⟩⟩
  · have lt := of_decide_eq_false e
    have hix := Int.emod_nonneg t (show ((ss.length : Nat) : Int) ≠ 0 by omega)
    have hix2 := Int.emod_lt_of_pos t (show (0 : Int) < ((ss.length : Nat) : Int) by omega)
    obtain ⟨x, ex, i, rfl, i0, i1⟩ := pick (xs := ss.map V.int) (fun v => ∃ i : Int, v = V.int i ∧ 0 ≤ i ∧ i < 1000000007) hix (by rw [List.length_map]; exact hix2) (fun v m => by
      obtain ⟨j, mj, rfl⟩ := List.mem_map.mp m
      exact ⟨j, rfl, (hx j mj).1, (hx j mj).2⟩)
    have fP : PotAt P0 G S H1 := ⟨gs, ss, t + 1, sn, f1, f2, f3, nGS, l1, l64, hx, by omega, sn0, sn1⟩
    refine ⟨_, rfl, P0, _, 1, .ref S, rfl, rfl, .inl (.of f1), rfl, _, rfl, .inl ⟨_, rfl, _, rfl, P0, _, 1, .ref S, rfl, rfl, .inl (.of f1), rfl, S, _, rfl, .inl (.of f3), _, _, rfl, rfl, by rw [List.length_map]; omega, S, _, _, .int i, rfl, rfl, .inl (.of f3), by rw [List.length_map]; exact ex, _, _, rfl, rfl, .inr ⟨by decide, by decide⟩, _, rfl, _, _, rfl, rfl, .inl ⟨by decide, by decide⟩, _, _, rfl, rfl, _, rfl, P0, _, 3, .int sn, rfl, rfl, .inl (.of f1), rfl, _, _, rfl, rfl, .inr ⟨by decide, by decide⟩, _, _, rfl, rfl, ?_⟩⟩
    generalize i * 7919 + 104729 * t + sn * 31 = sd
    refine ⟨_, rfl, _, _, rfl, rfl, .inr ⟨by decide, by decide⟩, _, _, rfl, rfl, .inl ⟨_, rfl, _, _, rfl, rfl, (by show (0 : Int) < _; decide), ?_⟩⟩
    have b0 := Int.emod_nonneg (sd * 48271 + 11) (show (2147483647 : Int) ≠ 0 by decide)
    have b1 := Int.emod_lt_of_pos (sd * 48271 + 11) (show (0 : Int) < 2147483647 by decide)
    generalize (sd * 48271 + 11) % 2147483647 = n1 at *
    refine ⟨_, rfl, _, rfl, _, _, rfl, rfl, ⟨by decide, by decide⟩, _, _, rfl, rfl, _, _, rfl, rfl, .inl ⟨by omega, by omega⟩, .inl ⟨_, rfl, _, _, rfl, rfl, (by show (0 : Int) < _; decide), ?_⟩⟩
    have c0 := Int.emod_nonneg (n1 * (n1 / 1009 + 69621)) (show (2147483629 : Int) ≠ 0 by decide)
    have c1 := Int.emod_lt_of_pos (n1 * (n1 / 1009 + 69621)) (show (0 : Int) < 2147483629 by decide)
    generalize n1 * (n1 / 1009 + 69621) % 2147483629 = n2 at *
    refine ⟨_, rfl, _, rfl, _, _, rfl, rfl, ⟨by decide, by decide⟩, _, _, rfl, rfl, _, _, rfl, rfl, .inl ⟨by omega, by omega⟩, _, rfl, _, _, rfl, rfl, .inl ⟨_, rfl, _, _, rfl, rfl, (by show (0 : Int) < _; decide), ?_⟩⟩
    generalize (n2 * (n2 / 2003 + 40692) + t) % 2147483399 = n3
    exact ⟨_, rfl, _, _, rfl, rfl, ⟨by decide, by decide⟩, .inl ⟨_, rfl, _, rfl, _, _, rfl, rfl, m0, q _ _ (Int.emod_nonneg _ (by omega)) (Int.emod_lt_of_pos _ m0) sb1 fP⟩⟩
theorem ok_law_any' (Z : Zs mg) (c_law_draw : Cal P w K mg base CX0 k "_law_draw" ["_law_pot_here", "_law_many"] spPDraw) (d : Def K mg "_law_any" s_law_any ["_law_pot_here", "_law_items"]) : Cal P w K mg base CX0 (k + 1) "_law_any" ["_law_pot_here", "_law_items"] spPAny := by
  refine d.ok sc_law_any (fun vs H Q E h => ?_) (fun f cdv A outer s H vs Q E hr h => ?_)
  · obtain ⟨_, _, _, _, _, rfl, _⟩ := h; rfl
  obtain ⟨P0, G, S, a, xs, rfl, hp, ea, na, ng, l1, l2, q⟩ := h
  refine ⟨_, (pss_one (ps_ret (pe_ix ix_list (pv 1) (pe_cal c_law_draw hr (by rfl) (pa_cons (pv 0) (pa_cons (pe_callB (id := "len") call_len_seq (by rfl) Z.len (by decide +kernel) (pa_cons (pv 1) pa_nil)) pa_nil))) (fun _ _ => rfl)))), ?_⟩
  refine ⟨_, rfl, _, rfl, _, rfl, a, xs, rfl, .inl (.of ea), P0, G, S, _, rfl, hp, by omega, by omega, fun r H1 r0 r1 s1 p1 => ?_⟩
  obtain ⟨v, ev, mv⟩ := pick (xs := xs) (fun v => v ∈ xs) r0 r1 fun _ m => m
  exact ⟨a, xs, r, v, rfl, rfl, .inl (.of (s1 _ _ (fun h => h.elim na ng) ea)), ev, q v H1 mv s1 p1⟩
end
end KL
end
section
set_option maxHeartbeats 1000000
namespace KL
open PySem PySem.Spec PyProof.Rows L2
abbrev sc_law_menuN : List Str := ["_law_pot_here"]
abbrev s_law_menu : Stmt := topS 40
theorem sc_law_menu : FnScope ["_law_pot_here"] ["_law_pot_here"] (defScope s_law_menu) := ⟨rfl, rfl, rfl, by decide +kernel, rfl, by decide +kernel, by decide +kernel⟩
def spPMenu : Sp := fun vs H Q _ => ∃ (P G S : Addr), vs = [.ref P] ∧ PotAt P G S H ∧ ∀ a H' (ms : List Int), SB (AtP P G) H H' → PotAt P G S H' → H a = none → H' a = some (.lst (ms.map V.int)) → 1 ≤ ms.length → ms.length ≤ 10 → (∀ m ∈ ms, 0 ≤ m ∧ m ≤ 60) → Q (.ref a) H'
/-- ends that are not greater -/
def EndsLe (b : Int) (rows : List Th) : Prop := ∀ r ∈ rows, ∀ e, endOf r = .int e → e ≤ b
def spPMach : Sp := fun vs H Q _ => ∃ (P G S a : Addr) (mo : Int) (ms : List Int), vs = [.ref P, .int mo, .ref a] ∧ PotAt P G S H ∧ 1 ≤ mo ∧ mo ≤ 30 ∧ H a = some (.lst (ms.map V.int)) ∧ a ≠ P ∧ a ≠ G ∧ 1 ≤ ms.length ∧ ms.length ≤ 10 ∧ (∀ m ∈ ms, 0 ≤ m ∧ m ≤ 60) ∧
  ∀ v z rows H', SB (AtP P G) H H' → PotAt P G S H' → At (AtP P G) H' (.tup [.int z, .tup rows]) v → MOk z rows → (rows.length : Int) ≤ mo → EndsLe 9 rows → Q v H'
theorem PotAt.trk {P G S : Addr} {H : Hp} (h : PotAt P G S H) : ∀ a, AtP P G a → Trk H a := fun a e => by
  obtain ⟨gs, ss, t, n, e1, e2, e3, r⟩ := h.ex
  rcases e with rfl | rfl
  · exact .of e1
  · exact .of e2
theorem PotAt.new {P G S p : Addr} {H H0 : Hp} (h : PotAt P G S H) (h0 : PotAt P G S H0) (hp : H0 p = none) (o : HO) : PotAt P G S (upd H p o) := by
  obtain ⟨gs, ss, t, n, e1, e2, e3, r⟩ := h.ex
  obtain ⟨_, _, _, _, f1, f2, f3, _⟩ := h0.ex
  exact ⟨gs, ss, t, n, by rw [upd_ne (fun x => by rw [x, hp] at f1; cases f1)]; exact e1, by rw [upd_ne (fun x => by rw [x, hp] at f2; cases f2)]; exact e2, by rw [upd_ne (fun x => by rw [x, hp] at f3; cases f3)]; exact e3, r⟩
theorem PotAt.ne_new {P G S p : Addr} {H : Hp} (h : PotAt P G S H) (hp : H p = none) : p ≠ P ∧ p ≠ G := ⟨fun e => h.trk p (.inl e) hp, fun e => h.trk p (.inr e) hp⟩
section
variable {P : Program} {w : World} {K : PySem.W.Frag} {mg : Str → Option Value} {base : Heap} {k : Nat} {t1 t2 t3 : Tok}
theorem ok_law_menu' (c_law_any : Cal P w K mg base CX0 k "_law_any" ["_law_pot_here", "_law_items"] spPAny) (d : Def K mg "_law_menu" s_law_menu ["_law_pot_here"]) : Cal P w K mg base CX0 (k + 1) "_law_menu" ["_law_pot_here"] spPMenu := by
  refine d.ok sc_law_menu (fun vs H Q E h => ?_) (fun f cdv A outer s H vs Q E hr h => ?_)
  · obtain ⟨_, _, _, rfl, _⟩ := h; rfl
  obtain ⟨P0, G, S, rfl, hp, q⟩ := h
  refine ⟨_, (pss_one (ps_ret (pe_cal c_law_any hr (by rfl) (pa_cons (pv 0) (pa_cons (pe_lst (pa_cons (pe_lst (pa_cons pe_int (pa_cons pe_int (pa_cons pe_int (pa_cons pe_int pa_nil))))) (pa_cons (pe_lst (pa_cons pe_int (pa_cons pe_int (pa_cons pe_int (pa_cons pe_int pa_nil))))) (pa_cons (pe_lst (pa_cons pe_int (pa_cons pe_int (pa_cons pe_int (pa_cons pe_int pa_nil))))) (pa_cons (pe_lst (pa_cons pe_int (pa_cons pe_int (pa_cons pe_int (pa_cons pe_int pa_nil))))) (pa_cons (pe_lst (pa_cons pe_int (pa_cons pe_int (pa_cons pe_int (pa_cons pe_int pa_nil))))) (pa_cons (pe_lst (pa_cons pe_int (pa_cons pe_int (pa_cons pe_int (pa_cons pe_int pa_nil))))) pa_nil))))))) pa_nil))))), ?_⟩
  refine ⟨_, rfl, (by show 4 ≤ sizeLine; decide), fun a1 n1 => ⟨(by show 4 ≤ sizeLine; decide), fun a2 n2 => ⟨(by show 4 ≤ sizeLine; decide), fun a3 n3 => ⟨(by show 4 ≤ sizeLine; decide), fun a4 n4 => ⟨(by show 4 ≤ sizeLine; decide), fun a5 n5 => ⟨(by show 4 ≤ sizeLine; decide), fun a6 n6 => ⟨(by show 6 ≤ sizeLine; decide), fun a7 n7 => ?_⟩⟩⟩⟩⟩⟩⟩
  have y1 := same_new n1 (.lst ([0, 1, 1, 2].map V.int))
  have y2 := same_new n2 (.lst ([1, 1, 2, 3].map V.int))
  have y3 := same_new n3 (.lst ([2, 2, 3, 4].map V.int))
  have y4 := same_new n4 (.lst ([3, 4, 5, 9].map V.int))
  have y5 := same_new n5 (.lst ([0, 2, 5, 60].map V.int))
  have y6 := same_new n6 (.lst ([1, 2, 3, 3].map V.int))
  have y7 := same_new n7 (.lst [V.ref a1, V.ref a2, V.ref a3, V.ref a4, V.ref a5, V.ref a6])
  have z2 := y1.trans y2
  have z3 := z2.trans y3
  have z4 := z3.trans y4
  have z5 := z4.trans y5
  have z6 := z5.trans y6
  have z7 := z6.trans y7
  have p7 := hp.same z7
  have nn := (hp.same z6).ne_new n7
  refine ⟨P0, G, S, a7, _, rfl, p7, upd_same, nn.1, nn.2, (by show 1 ≤ 6; decide), (by show 6 ≤ 1000; decide), fun v H' mv sB pB => ?_⟩
  have go : ∀ (a : Addr) (ms : List Int), H a = none → (upd (upd (upd (upd (upd (upd (upd H a1 (.lst ([0, 1, 1, 2].map V.int))) a2 (.lst ([1, 1, 2, 3].map V.int))) a3 (.lst ([2, 2, 3, 4].map V.int))) a4 (.lst ([3, 4, 5, 9].map V.int))) a5 (.lst ([0, 2, 5, 60].map V.int))) a6 (.lst ([1, 2, 3, 3].map V.int))) a7 (.lst [V.ref a1, V.ref a2, V.ref a3, V.ref a4, V.ref a5, V.ref a6])) a = some (.lst (ms.map V.int)) → 1 ≤ ms.length → ms.length ≤ 10 → (∀ m ∈ ms, 0 ≤ m ∧ m ≤ 60) → Q (.ref a) H' := fun a ms na ea l1 l2 hm => by
    have n := hp.ne_new na
    exact q a H' ms ((SB.of z7).trans sB) pB na (sB _ _ (fun h => h.elim n.1 n.2) ea) l1 l2 hm
  have hm : v = .ref a1 ∨ v = .ref a2 ∨ v = .ref a3 ∨ v = .ref a4 ∨ v = .ref a5 ∨ v = .ref a6 := by simpa using mv
  rcases hm with rfl | rfl | rfl | rfl | rfl | rfl
  · exact go a1 [0, 1, 1, 2] n1 (((((y2.trans y3).trans y4).trans y5).trans y6).trans y7 _ _ upd_same) (by decide) (by decide) (by decide)
  · exact go a2 [1, 1, 2, 3] (Same.free y1 n2) ((((y3.trans y4).trans y5).trans y6).trans y7 _ _ upd_same) (by decide) (by decide) (by decide)
  · exact go a3 [2, 2, 3, 4] (Same.free z2 n3) (((y4.trans y5).trans y6).trans y7 _ _ upd_same) (by decide) (by decide) (by decide)
  · exact go a4 [3, 4, 5, 9] (Same.free z3 n4) ((y5.trans y6).trans y7 _ _ upd_same) (by decide) (by decide) (by decide)
  · exact go a5 [0, 2, 5, 60] (Same.free z4 n5) (y6.trans y7 _ _ upd_same) (by decide) (by decide) (by decide)
  · exact go a6 [1, 2, 3, 3] (Same.free z5 n6) (y7 _ _ upd_same) (by decide) (by decide) (by decide)
end
end KL
end
section
set_option maxHeartbeats 1000000
namespace KL
open PySem PySem.Spec PyProof.Rows L2
abbrev sc_law_machineN : List Str := ["_law_pot_here", "_law_most", "_law_mores", "_law_size", "_law_states", "_law_rows", "_law_state", "_law_steps", "_law_letter", "_law_step", "_law_end"]
abbrev s_law_machine : Stmt := topS 39
theorem sc_law_machine : FnScope ["_law_pot_here", "_law_most", "_law_mores", "_law_size", "_law_states", "_law_rows", "_law_state", "_law_steps", "_law_letter", "_law_step", "_law_end"] ["_law_pot_here", "_law_most", "_law_mores"] (defScope s_law_machine) := ⟨rfl, rfl, rfl, by decide +kernel, rfl, by decide +kernel, by decide +kernel⟩
section
variable {P : Program} {w : World} {K : PySem.W.Frag} {mg : Str → Option Value} {base : Heap} {k : Nat} {t1 t2 t3 : Tok}
theorem ok_law_machine' (Z : Zs mg) (c_law_draw : Cal P w K mg base CX0 k "_law_draw" ["_law_pot_here", "_law_many"] spPDraw) (c_law_any : Cal P w K mg base CX0 k "_law_any" ["_law_pot_here", "_law_items"] spPAny) (d : Def K mg "_law_machine" s_law_machine ["_law_pot_here", "_law_most", "_law_mores"]) : Cal P w K mg base CX0 (k + 1) "_law_machine" ["_law_pot_here", "_law_most", "_law_mores"] spPMach := by
  refine d.ok sc_law_machine (fun vs H Q E h => ?_) (fun f cdv A outer s H vs Q E hr h => ?_)
  · obtain ⟨_, _, _, _, _, _, rfl, _⟩ := h; rfl
  obtain ⟨P0, G, S, a, mo, ms, rfl, hp, mo1, mo2, ea, na, ng, lm1, lm2, hm, q⟩ := h
  refine ⟨_, (pss_cons (ps_par (i := 3) (j := 4) rfl sc_law_machine.nd rfl rfl (by decide) rfl rfl (pa_cons (pe_cal c_law_any hr (by rfl) (pa_cons (pv 0) (pa_cons (pe_lst (pa_cons pe_int (pa_cons pe_int (pa_cons pe_int (pa_cons pe_int (pa_cons pe_int (pa_cons pe_int (pa_cons pe_int pa_nil)))))))) pa_nil))) (pa_cons (pe_op op_add pe_int (pe_cal c_law_draw hr (by rfl) (pa_cons (pv 0) (pa_cons (pv 1) pa_nil)))) pa_nil)) (by rfl))
      (pss_cons (ps_set (i := 5) sc_law_machine.nd rfl (Or.inl rfl) (pe_lst pa_nil))
      (pss_cons (ps_for PassesOwn.never rfl (pi_range1 (by rfl) Z.range (pa_cons (pv 4) pa_nil)) (pg_name (i := 6) sc_law_machine.nd rfl (Or.inl rfl)) (pss_cons (ps_set (i := 7) sc_law_machine.nd rfl (Or.inl rfl) (pe_lst pa_nil))
      (pss_cons (ps_for PassesOwn.never rfl (pi_range1 (by rfl) Z.range (pa_cons (pv 3) pa_nil)) (pg_name (i := 8) sc_law_machine.nd rfl (Or.inl rfl)) (pss_cons (ps_set (i := 9) sc_law_machine.nd rfl (Or.inl rfl) (pe_tup (pa_cons (pe_cal c_law_any hr (by rfl) (pa_cons (pv 0) (pa_cons (pv 2) pa_nil))) (pa_cons (pe_cal c_law_draw hr (by rfl) (pa_cons (pv 0) (pa_cons (pv 4) pa_nil))) pa_nil))))
      (pss_one (ps_expr (pe_bm PySem.F.plainAttrs_list PySem.F.slot_list_append PySem.F.type_list_append mt_append (pv 7) (pa_cons (pe_ifExp (pt_cmpR op_eq (pe_cal c_law_draw hr (by rfl) (pa_cons (pv 0) (pa_cons pe_int pa_nil))) pe_int (nomark _)) pe_non (pv 9)) pa_nil))))))
      (pss_cons (ps_set (i := 10) sc_law_machine.nd rfl (Or.inl rfl) (pe_cal c_law_any hr (by rfl) (pa_cons (pv 0) (pa_cons (pe_lst (pa_cons pe_non (pa_cons pe_int (pa_cons pe_int (pa_cons pe_int (pa_cons pe_int (pa_cons pe_int (pa_cons pe_int pa_nil)))))))) pa_nil))))
      (pss_one (ps_expr (pe_bm PySem.F.plainAttrs_list PySem.F.slot_list_append PySem.F.type_list_append mt_append (pv 5) (pa_cons (pe_tup (pa_cons (pv 10) (pa_cons (pe_callTy (T := "tuple") call_tuple_of (by rfl) Z.tuple (by decide +kernel) (pa_cons (pv 7) pa_nil)) pa_nil))) pa_nil))))))))
      (pss_one (ps_ret (pe_tup (pa_cons (pv 3) (pa_cons (pe_callTy (T := "tuple") call_tuple_of (by rfl) Z.tuple (by decide +kernel) (pa_cons (pv 5) pa_nil)) pa_nil)))))))), ?_⟩
  -- size, states
  refine ⟨_, rfl, (by show 7 ≤ sizeLine; decide), fun b1 n1 => ?_⟩
  have y1 := same_new n1 (.lst [V.int 1, V.int 2, V.int 2, V.int 2, V.int 3, V.int 4, V.int 8])
  have nn1 := hp.ne_new n1
  refine ⟨P0, G, S, b1, _, rfl, hp.same y1, upd_same, nn1.1, nn1.2, (by show 1 ≤ 7; decide), (by show 7 ≤ 1000; decide), fun v H1 mv s1 p1 => ?_⟩
  obtain ⟨sz, rfl, sz1, sz8⟩ : ∃ sz : Int, v = .int sz ∧ 1 ≤ sz ∧ sz ≤ 8 := by
    have : v = .int 1 ∨ v = .int 2 ∨ v = .int 3 ∨ v = .int 4 ∨ v = .int 8 := by simpa using mv
    rcases this with rfl | rfl | rfl | rfl | rfl <;> exact ⟨_, rfl, by decide, by decide⟩
  have s01 : SB (AtP P0 G) H H1 := (SB.of y1).trans s1
  refine ⟨_, rfl, _, rfl, P0, G, S, mo, rfl, p1, by omega, by omega, fun r2 H2 a2 b2 s2 p2 => ⟨_, _, rfl, rfl, _, _, rfl, ?_⟩⟩
  obtain ⟨n, rfl⟩ : ∃ n : Nat, r2 = (n : Int) := ⟨r2.toNat, by omega⟩
  have s02 := s01.trans s2
  -- rows = []
  refine ⟨(by show 0 ≤ sizeLine; decide), fun L nL => ?_⟩
  have yL := same_new nL (.lst [])
  have nnL := p2.ne_new nL
  have p3 := p2.same yL
  have s03 : SB (AtP P0 G) H (upd H2 L (.lst [])) := s02.trans (.of yL)
  have naP : ¬ AtP P0 G a := fun h => h.elim na ng
  have ea3 := s03 _ _ naP ea
  have naL : a ≠ L := fun h => by rw [h] at ea; exact absurd (s02 _ _ (by rw [← h]; exact naP) ea) (by rw [nL]; exact fun h => nomatch h)
  have eL : (upd H2 L (.lst [])) L = some (.lst []) := upd_same
  generalize upd H2 L (.lst []) = H3 at *
  refine ⟨_, rfl, _, rfl, by omega, by omega, ?_⟩
  refine for_range (lo := 0) (n := (1 + (n : Int)).toNat) (fun i σ' H' => SB (fun b => AtP P0 G b ∨ b = L) H3 H' ∧ PotAt P0 G S H' ∧ ∃ (vs : List V) (ts : List Th) (y6 y7 y8 y9 y10 : Option V), σ' = [some (.ref P0), some (.int mo), some (.ref a), some (.int sz), some (.int (1 + (n : Int))), some (.ref L), y6, y7, y8, y9, y10] ∧ H' L = some (.lst vs) ∧ AtAll (fun b => AtP P0 G b ∨ b = L) H' ts vs ∧ ts.length = i ∧ ∀ t ∈ ts, rowB sz (1 + (n : Int)) t = true ∧ ∀ e, endOf t = .int e → e ≤ 9)
    ⟨.rfl', p3, [], [], none, none, none, none, none, rfl, eL, .nil, rfl, fun t h => nomatch h⟩ (fun i σ' H' hi hh => ?_) (fun σ' H' hh => ?_)
  · obtain ⟨sA, pA, vs, ts, y6, y7, y8, y9, y10, rfl, eLA, aL, lL, gL⟩ := hh
    refine ⟨(by show 0 ≤ sizeLine; decide), fun T nT => ?_⟩
    have yT := same_new nT (.lst [])
    have nnT := pA.ne_new nT
    have nTL : T ≠ L := fun h => by rw [h, eLA] at nT; cases nT
    have eaA := sA _ _ (fun h => h.elim naP naL) ea3
    have naT : a ≠ T := fun h => by rw [h, nT] at eaA; cases eaA
    have pT := pA.same yT
    have eLT := yT _ _ eLA
    have aLT := aL.same yT
    have eaT := yT _ _ eaA
    have eT : (upd H' T (.lst [])) T = some (.lst []) := upd_same
    have sAT : SB (fun b => AtP P0 G b ∨ b = L) H3 (upd H' T (.lst [])) := sA.trans (.of yT)
    generalize upd H' T (.lst []) = H4 at *
    refine ⟨_, rfl, _, rfl, by omega, by omega, ?_⟩
    refine for_range (lo := 0) (n := sz.toNat) (fun j σ2 G2 => SB (fun b => AtP P0 G b ∨ b = T) H4 G2 ∧ PotAt P0 G S G2 ∧ ∃ (vs2 : List V) (ts2 : List Th) (y8 y9 : Option V), σ2 = [some (.ref P0), some (.int mo), some (.ref a), some (.int sz), some (.int (1 + (n : Int))), some (.ref L), some (.int (0 + (i : Nat))), some (.ref T), y8, y9, y10] ∧ G2 T = some (.lst vs2) ∧ AtAll (fun b => b = T ∨ (AtP P0 G b ∨ b = L)) G2 ts2 vs2 ∧ ts2.length = j ∧ ∀ t ∈ ts2, StepIs (1 + (n : Int)) t)
      ⟨.rfl', pT, [], [], _, _, rfl, eT, .nil, rfl, fun t h => nomatch h⟩ (fun j σ2 G2 hj h2 => ?_) (fun σ2 G2 h2 => ?_)
    · obtain ⟨sG, pG, vs2, ts2, y8, y9, rfl, eTG, aG, lG, gG⟩ := h2
      have eaG := sG _ _ (fun h => h.elim naP naT) eaT
      refine ⟨_, rfl, _, rfl, P0, G, S, a, _, rfl, pG, eaG, na, ng, by rw [List.length_map]; exact lm1, by rw [List.length_map]; omega, fun v1 G3 mv1 s3 p3' => ?_⟩
      obtain ⟨m1, mm1, rfl⟩ := List.mem_map.mp mv1
      obtain ⟨m10, m11⟩ := hm m1 mm1
      refine ⟨_, rfl, _, rfl, P0, G, S, _, rfl, p3', by omega, by omega, fun r4 G4 a4 b4 s4 p4 => ⟨(by show 2 ≤ sizeLine; decide), fun p5 n5 => ?_⟩⟩
      have y5 := same_new n5 (.tup [V.int m1, V.int r4])
      have p5' := p4.same y5
      have nn5 := p4.ne_new n5
      have sB : SB (AtP P0 G) G2 (upd G4 p5 (.tup [V.int m1, V.int r4])) := (s3.trans s4).trans (.of y5)
      have e5 : (upd G4 p5 (.tup [V.int m1, V.int r4])) p5 = some (.tup [V.int m1, V.int r4]) := upd_same
      have trkG : ∀ b, (b = T ∨ (AtP P0 G b ∨ b = L)) → Trk G4 b := fun b h => by
        rcases h with rfl | h | rfl
        · exact .of ((s3.trans s4) _ _ (fun h => h.elim nnT.1 nnT.2) eTG)
        · exact p4.trk b h
        · exact .of ((s3.trans s4) _ _ (fun h => h.elim nnL.1 nnL.2) (sG _ _ (fun h => h.elim (fun h => h.elim nnL.1 nnL.2) (fun h => nTL h.symm)) eLT))
      have nz5 : ¬ (p5 = T ∨ (AtP P0 G p5 ∨ p5 = L)) := fun h => trkG _ h n5
      generalize upd G4 p5 (.tup [V.int m1, V.int r4]) = G5 at *
      have eT5 := sB _ _ (fun h => h.elim nnT.1 nnT.2) eTG
      refine ⟨_, rfl, .inl ⟨rfl, _, .inl (.inl eT5)⟩, ?_⟩
      refine ⟨_, rfl, P0, G, S, 4, rfl, p5', by decide, by decide, fun r6 G6 a6 b6 s6 p6 => ?_⟩
      have sC := sB.trans s6
      have eT6 := sC _ _ (fun h => h.elim nnT.1 nnT.2) eTG
      have e56 := s6 _ _ (fun h => h.elim nn5.1 nn5.2) e5
      have fin : ∀ (v : V) (t : Th), At (fun b => b = T ∨ (AtP P0 G b ∨ b = L)) G6 t v → StepIs (1 + (n : Int)) t → ∃ l xs y, (V.ref T) = .ref l ∧ [v] = [y] ∧ G6 l = some (.lst xs) ∧ xs.length < sizeLine ∧ (SB (fun b => AtP P0 G b ∨ b = T) H4 (upd G6 l (.lst (xs ++ [y]))) ∧ PotAt P0 G S (upd G6 l (.lst (xs ++ [y]))) ∧ ∃ (vs2 : List V) (ts2 : List Th) (y8' y9' : Option V), [some (.ref P0), some (.int mo), some (.ref a), some (.int sz), some (.int (1 + (n : Int))), some (.ref L), some (.int (0 + (i : Nat))), some (.ref T), some (.int (0 + (j : Nat))), some (.ref p5), y10] = [some (.ref P0), some (.int mo), some (.ref a), some (.int sz), some (.int (1 + (n : Int))), some (.ref L), some (.int (0 + (i : Nat))), some (.ref T), y8', y9', y10] ∧ (upd G6 l (.lst (xs ++ [y]))) T = some (.lst vs2) ∧ AtAll (fun b => b = T ∨ (AtP P0 G b ∨ b = L)) (upd G6 l (.lst (xs ++ [y]))) ts2 vs2 ∧ ts2.length = j + 1 ∧ ∀ t ∈ ts2, StepIs (1 + (n : Int)) t) := fun v t a2 i2 => by
        have sU : SB (fun b => b = T ∨ (AtP P0 G b ∨ b = L)) G6 (upd G6 T (.lst (vs2 ++ [v]))) := .self (Z := fun b => b = T ∨ (AtP P0 G b ∨ b = L)) (.inl rfl) _
        refine ⟨T, vs2, v, rfl, rfl, eT6, by rw [aG.len, lG, sizeLine_eq]; omega, (sG.trans (sC.mono fun b e => .inl e)).trans (.self (Z := fun b => AtP P0 G b ∨ b = T) (.inr rfl) _), p6.new pA nT _, vs2 ++ [v], ts2 ++ [t], _, _, rfl, upd_same, ((aG.sb (sC.mono fun b e => .inr (.inl e))).sb sU).append (.cons (a2.sb sU) .nil), by rw [List.length_append, lG]; rfl, fun t' m => ?_⟩
        rcases List.mem_append.mp m with m | m
        · exact gG t' m
        · rw [List.mem_singleton.mp m]; exact i2
      refine ⟨rfl, _, rfl, iteB (fun e => ?_) (fun e => ?_)⟩
      · exact fin .non .non rfl (.inl rfl)
      · exact ⟨_, rfl, fin (.ref p5) (.tup [.int m1, .int r4]) ⟨p5, _, rfl, nz5, e56, .cons rfl (.cons rfl .nil)⟩ (.inr ⟨m1, r4, rfl, m10, m11, a4, b4⟩)⟩
    · obtain ⟨sG, pG, vs2, ts2, y8, y9, rfl, eTG, aG, lG, gG⟩ := h2
      refine ⟨_, rfl, (by show 7 ≤ sizeLine; decide), fun b1' n1' => ?_⟩
      have y1' := same_new n1' (.lst [V.non, V.int 1, V.int 1, V.int 2, V.int 3, V.int 5, V.int 9])
      have nn1' := pG.ne_new n1'
      refine ⟨P0, G, S, b1', _, rfl, pG.same y1', upd_same, nn1'.1, nn1'.2, (by show 1 ≤ 7; decide), (by show 7 ≤ 1000; decide), fun v5 G5 mv5 s5 p5 => ?_⟩
      obtain ⟨en, hen, aen⟩ : ∃ en : Th, (en = .non ∨ ∃ i, en = .int i ∧ 1 ≤ i ∧ i ≤ 9) ∧ ∀ Z G, At Z G en v5 := by
        have : v5 = .non ∨ v5 = .int 1 ∨ v5 = .int 2 ∨ v5 = .int 3 ∨ v5 = .int 5 ∨ v5 = .int 9 := by simpa using mv5
        rcases this with rfl | rfl | rfl | rfl | rfl | rfl
        · exact ⟨.non, .inl rfl, fun _ _ => rfl⟩
        all_goals exact ⟨.int _, .inr ⟨_, rfl, by decide, by decide⟩, fun _ _ => rfl⟩
      have s25 : SB (AtP P0 G) G2 G5 := (SB.of y1').trans s5
      have eL5 := s25 _ _ (fun h => h.elim nnL.1 nnL.2) (sG _ _ (fun h => h.elim (fun h => h.elim nnL.1 nnL.2) (fun h => nTL h.symm)) eLT)
      have eT5 := s25 _ _ (fun h => h.elim nnT.1 nnT.2) eTG
      refine ⟨_, rfl, .inl ⟨rfl, _, .inl (.inl eL5)⟩, ?_⟩
      refine ⟨_, rfl, _, rfl, T, vs2, rfl, .inl ⟨.of eT5, fun p6 n6 => ?_⟩⟩
      have y6' := same_new n6 (.tup vs2)
      refine ⟨(by show 2 ≤ sizeLine; decide), fun p7 n7 => ?_⟩
      have y7' := same_new n7 (.tup [v5, .ref p6])
      have y67 := y6'.trans y7'
      have trk5 : ∀ b, (AtP P0 G b ∨ b = L) → Trk G5 b := fun b h => by
        rcases h with h | rfl
        · exact p5.trk b h
        · exact .of eL5
      have row : At (fun b => AtP P0 G b ∨ b = L) (upd (upd G5 p6 (.tup vs2)) p7 (.tup [v5, .ref p6])) (.tup [en, .tup ts2]) (.ref p7) := ⟨p7, _, rfl, fun h => Trk.not n7 (Trk.same y6' (trk5 _ h)), upd_same, .cons (aen _ _) (.cons ⟨p6, vs2, rfl, fun h => Trk.not n6 (trk5 _ h), y7' _ _ upd_same, (((aG.sb (s25.mono fun b e => .inr (.inl e))).less fun b h => .inr h).same y67)⟩ .nil)⟩
      have sHG : SB (fun b => AtP P0 G b ∨ b = L) H' G2 := fun b o nb hb => sG b o (fun h => h.elim (fun h => nb (.inl h)) (fun h => by rw [h, nT] at hb; cases hb)) (yT _ _ hb)
      have sH7 : SB (fun b => AtP P0 G b ∨ b = L) H' (upd (upd G5 p6 (.tup vs2)) p7 (.tup [v5, .ref p6])) := (sHG.trans (s25.mono fun b e => .inl e)).trans (.of y67)
      have aL7 := aL.sb sH7
      have p57 := p5.same y67
      have eL7 := y67 _ _ eL5
      generalize upd (upd G5 p6 (.tup vs2)) p7 (.tup [v5, .ref p6]) = G7 at *
      have sU : SB (fun b => AtP P0 G b ∨ b = L) G7 (upd G7 L (.lst (vs ++ [.ref p7]))) := .self (Z := fun b => AtP P0 G b ∨ b = L) (.inr rfl) _
      refine ⟨L, vs, _, rfl, rfl, eL7, by rw [aL.len, lL, sizeLine_eq]; omega, (sA.trans sH7).trans sU, p57.new p2 nL _, vs ++ [.ref p7], ts ++ [.tup [en, .tup ts2]], _, _, _, _, _, rfl, upd_same, (aL7.sb sU).append (.cons (row.sb sU) .nil), by rw [List.length_append, lL]; rfl, fun t m => ?_⟩
      rcases List.mem_append.mp m with m | m
      · exact gL t m
      · rw [List.mem_singleton.mp m]
        refine ⟨rowB_of (hen.imp_right fun ⟨i, e, a, b⟩ => ⟨i, e, a, by omega⟩) (by rw [lG]; omega) gG, fun e he => ?_⟩
        have he : en = .int e := he
        rcases hen with rfl | ⟨i, rfl, _, b⟩
        · cases he
        · injection he with he; omega
  · obtain ⟨sA, pA, vs, ts, y6, y7, y8, y9, y10, rfl, eLA, aL, lL, gL⟩ := hh
    refine ⟨_, rfl, _, rfl, L, vs, rfl, .inl ⟨.of eLA, fun p6 n6 => ?_⟩⟩
    have y6' := same_new n6 (.tup vs)
    refine ⟨(by show 2 ≤ sizeLine; decide), fun p7 n7 => ?_⟩
    have y7' := same_new n7 (.tup [.int sz, .ref p6])
    have y67 := y6'.trans y7'
    have trk : ∀ b, (AtP P0 G b ∨ b = L) → Trk H' b := fun b h => by
      rcases h with h | rfl
      · exact pA.trk b h
      · exact .of eLA
    have s0H : SB (AtP P0 G) H H' := fun b o nb hb => sA b o (fun h => h.elim nb (fun h => by
      subst h
      exact absurd (s02 _ _ nb hb) (by rw [nL]; exact fun h => nomatch h))) (s03 b o nb hb)
    refine q _ sz ts _ (s0H.trans (.of y67)) (pA.same y67) ⟨p7, _, rfl, fun h => Trk.not n7 (Trk.same y6' (trk _ (.inl h))), upd_same, .cons rfl (.cons ⟨p6, vs, rfl, fun h => Trk.not n6 (trk _ (.inl h)), y7' _ _ upd_same, (aL.less fun b h => .inl h).same y67⟩ .nil)⟩ ⟨sz1, sz8, by omega, by omega, fun r m => ?_⟩ (by omega) (fun r m e he => (gL r m).2 e he)
    rw [lL, show (((1 + (n : Int)).toNat : Nat) : Int) = 1 + (n : Int) by omega]
    exact (gL r m).1
end
end KL
end
section
set_option maxHeartbeats 1000000
namespace KL
open PySem PySem.Spec PyProof.Rows L2
abbrev sc_law_potN : List Str := ["_law_script", "_law_cells", "_law_greats", "_law_smalls", "_law_item"]
abbrev s_law_pot : Stmt := topS 35
theorem sc_law_pot : FnScope ["_law_script", "_law_cells", "_law_greats", "_law_smalls", "_law_item"] ["_law_script"] (defScope s_law_pot) := ⟨rfl, rfl, rfl, by decide +kernel, rfl, by decide +kernel, by decide +kernel⟩
def spPot (K : PySem.W.Frag) : Sp := fun vs H Q _ => ∃ a ns, vs = [.ref a] ∧ SqL K H a (List.map V.int ns) ∧ ns.length ≤ 63 ∧ ∀ P G S H', Same H H' → H P = none → H G = none → H S = none → PotAt P G S H' → Q (.ref P) H'
section
variable {P : Program} {w : World} {K : PySem.W.Frag} {mg : Str → Option Value} {base : Heap} {k : Nat} {t1 t2 t3 : Tok}
theorem ok_law_pot (G : Ga mg) (Z : Zs mg) (d : Def K mg "_law_pot" s_law_pot ["_law_script"]) : Cal P w K mg base CX0 (k + 1) "_law_pot" ["_law_script"] (spPot K) := by
  refine d.ok sc_law_pot (fun vs H Q E h => ?_) (fun f cdv A outer s H vs Q E hr h => ?_)
  · obtain ⟨_, _, rfl, _⟩ := h; rfl
  obtain ⟨a, ns, rfl, hS, h63, q⟩ := h
  refine ⟨_, (pss_cons (ps_setLc (i := 1) (own := [("_law_item", 4)]) (g := gName 4) (tt := tYes) rfl sc_law_pot.nd rfl rfl (sw_true rfl rfl rfl (by decide +kernel)) (pi_list (pe_slice sl_list (pv 0) po_none (po_some pe_int))) (blkOk_by (N := ["_law_script", "_law_cells", "_law_greats", "_law_smalls", "_law_item"]) (sc := defScope s_law_pot) (by decide +kernel)) (fun _ _ _ _ _ => (pg_name (i := 4) sc_law_pot.nd rfl (Or.inl rfl))) (fun _ _ _ _ _ => pts_nil) (fun _ _ _ _ _ => (pe_callTy (T := "int") call_int1 (by rfl) Z.int (by decide +kernel) (pa_cons (pv 4) pa_nil))))
      (pss_cons (ps_setLc (i := 2) (own := [("_law_item", 4)]) (g := gName 4) (tt := _) rfl sc_law_pot.nd rfl rfl (sw_true rfl rfl rfl (by decide +kernel)) (pi_list (pv 1)) (blkOk_by (N := ["_law_script", "_law_cells", "_law_greats", "_law_smalls", "_law_item"]) (sc := defScope s_law_pot) (by decide +kernel)) (fun _ _ _ _ _ => (pg_name (i := 4) sc_law_pot.nd rfl (Or.inl rfl))) (fun _ _ _ _ _ => (pts_one (pt_cmpR op_ge (pe_callB (id := "abs") call_abs (by rfl) G.abs (by decide +kernel) (pa_cons (pv 4) pa_nil)) (pe_op op_pow pe_int pe_int) (nomark _)))) (fun _ _ _ _ _ => (pe_callB (id := "abs") call_abs (by rfl) G.abs (by decide +kernel) (pa_cons (pv 4) pa_nil))))
      (pss_cons (ps_set (i := 3) sc_law_pot.nd rfl (Or.inl rfl) (pe_op op_cat (pe_lc (own := [("_law_item", 4)]) (g := gName 4) (tt := _) rfl sc_law_pot.nd (pi_list (pv 1)) (blkOk_by (N := ["_law_script", "_law_cells", "_law_greats", "_law_smalls", "_law_item"]) (sc := defScope s_law_pot) (by decide +kernel)) (fun _ _ _ _ _ => (pg_name (i := 4) sc_law_pot.nd rfl (Or.inl rfl))) (fun _ _ _ _ _ => (pts_one (pt_cmpR op_lt (pe_callB (id := "abs") call_abs (by rfl) G.abs (by decide +kernel) (pa_cons (pv 4) pa_nil)) (pe_op op_pow pe_int pe_int) (nomark _)))) (fun _ _ _ _ _ => (pe_op op_mod (pe_callTy (T := "int") call_int1 (by rfl) Z.int (by decide +kernel) (pa_cons (pv 4) pa_nil)) pe_int))) (pe_lst (pa_cons (pe_op op_add (pe_callB (id := "len") call_len_seq (by rfl) Z.len (by decide +kernel) (pa_cons (pv 1) pa_nil)) pe_int) pa_nil))))
      (pss_one (ps_ret (pe_lst (pa_cons (pv 2) (pa_cons (pv 3) (pa_cons pe_int (pa_cons (pe_op op_mod (pe_callTy (T := "int") call_int1 (by rfl) Z.int (by decide +kernel) (pa_cons (pe_callB (id := "sum") (cr_sum rfl) (by rfl) Z.sum (by decide +kernel) (pa_cons (pv 3) pa_nil)) pa_nil)) pe_int) pa_nil)))))))))), ?_⟩
  obtain ⟨ms, em, lm⟩ := cut_ints ns none (some 63)
  refine ⟨_, rfl, 63, rfl, a, _, rfl, hS, fun p hp => ?_⟩
  have y1 := same_new hp (.lst (cutV (ns.map V.int) none (some 63)))
  have e1 : (upd H p (.lst (cutV (ns.map V.int) none (some 63)))) p = some (.lst (ms.map V.int)) := by rw [upd_same, em]
  generalize upd H p (.lst (cutV (ns.map V.int) none (some 63))) = H1 at *
  have gm : ∀ {j : Nat} {x : V}, (ms.map V.int)[j]? = some x → x = .int ((ms[j]?).getD 0) ∧ j < ms.length := fun h => by
    rw [List.getElem?_map] at h
    obtain ⟨i, ei, rfl⟩ := Option.map_eq_some_iff.mp h
    rw [ei]
    exact ⟨rfl, (List.getElem?_eq_some_iff.mp ei).1⟩
  have lmm : ms.length ≤ 63 := by omega
  refine ⟨p, rfl, ⟨_, .of e1⟩, lc_valW (f := fun j => .int ((ms[j]?).getD 0)) (p := fun _ => true) walk_list (fun _ _ _ _ h => h) (fun G' s' => .of (s' _ _ e1)) (by rw [List.length_map]; omega) (fun _ => rfl) (fun j x G' hj ex sG R hR => hR G' (Same.refl G')) (fun j x G' hj ex hp sG R hR => ?_) (fun C H2 s2 nC eC => ?_)⟩
  · obtain ⟨rfl, _⟩ := gm ex
    exact ⟨_, rfl, .inl ⟨_, rfl, hR G' (Same.refl G')⟩⟩
  rw [filt_all, List.length_map] at eC
  have eC' : H2 C = some (.lst (ms.map V.int)) := by
    rw [eC]; congr 2
    refine List.ext_getElem? fun i => ?_
    rw [List.getElem?_map, List.getElem?_map]
    by_cases hi : i < ms.length
    · rw [List.getElem?_range hi, List.getElem?_eq_getElem hi]; simp [List.getElem?_eq_getElem hi]
    · rw [List.getElem?_eq_none (by rw [List.length_range]; omega), List.getElem?_eq_none (by omega)]; rfl
  have cp : CPow 10 18 := ⟨by decide, by decide, by decide⟩
  -- greats
  refine ⟨_, rfl, C, rfl, ⟨_, .of eC'⟩, lc_valW (f := fun j => .int (if (ms[j]?).getD 0 < 0 then -(ms[j]?).getD 0 else (ms[j]?).getD 0)) (p := fun j => decide ((10 : Int) ^ (18 : Int).toNat ≤ (if (ms[j]?).getD 0 < 0 then -(ms[j]?).getD 0 else (ms[j]?).getD 0))) walk_list (fun _ _ _ _ h => h) (fun G' s' => .of (s' _ _ eC')) (by rw [List.length_map]; omega) (fun _ => rfl) (fun j x G' hj ex sG R hR => ?_) (fun j x G' hj ex hp sG R hR => ?_) (fun B H3 s3 nB eB => ?_)⟩
  · obtain ⟨rfl, _⟩ := gm ex
    exact ⟨_, rfl, _, rfl, _, _, rfl, rfl, cp, _, _, rfl, rfl, _, rfl, hR G' (Same.refl G')⟩
  · obtain ⟨rfl, _⟩ := gm ex
    exact ⟨_, rfl, _, rfl, hR G' (Same.refl G')⟩
  have eC3 := s3 _ _ eC'
  -- smalls
  refine ⟨_, rfl, C, rfl, ⟨_, .of eC3⟩, lc_valW (f := fun j => .int ((ms[j]?).getD 0 % 1000000007)) (p := fun j => decide ((if (ms[j]?).getD 0 < 0 then -(ms[j]?).getD 0 else (ms[j]?).getD 0) < (10 : Int) ^ (18 : Int).toNat)) walk_list (fun _ _ _ _ h => h) (fun G' s' => .of (s' _ _ eC3)) (by rw [List.length_map]; omega) (fun _ => rfl) (fun j x G' hj ex sG R hR => ?_) (fun j x G' hj ex hp sG R hR => ?_) (fun D H4 s4 nD eD => ?_)⟩
  · obtain ⟨rfl, _⟩ := gm ex
    exact ⟨_, rfl, _, rfl, _, _, rfl, rfl, cp, _, _, rfl, rfl, _, rfl, hR G' (Same.refl G')⟩
  · obtain ⟨rfl, _⟩ := gm ex
    exact ⟨_, rfl, .inl ⟨_, rfl, _, _, rfl, rfl, (by show (0 : Int) < _; decide), hR G' (Same.refl G')⟩⟩
  rw [List.length_map] at eB eD
  generalize hg1 : (List.range ms.length).filter (fun j => decide ((10 : Int) ^ (18 : Int).toNat ≤ (if (ms[j]?).getD 0 < 0 then -(ms[j]?).getD 0 else (ms[j]?).getD 0))) = i1 at eB
  generalize hg2 : (List.range ms.length).filter (fun j => decide ((if (ms[j]?).getD 0 < 0 then -(ms[j]?).getD 0 else (ms[j]?).getD 0) < (10 : Int) ^ (18 : Int).toNat)) = i2 at eD
  have l2 : i2.length ≤ ms.length := by
    have := List.length_filter_le (fun j => decide ((if (ms[j]?).getD 0 < 0 then -(ms[j]?).getD 0 else (ms[j]?).getD 0) < (10 : Int) ^ (18 : Int).toNat)) (List.range ms.length)
    rw [hg2, List.length_range] at this
    exact this
  have eB' : H3 B = some (.lst ((i1.map fun j => if (ms[j]?).getD 0 < 0 then -(ms[j]?).getD 0 else (ms[j]?).getD 0).map V.int)) := by rw [eB, List.map_map]; rfl
  have eD' : H4 D = some (.lst ((i2.map fun j => (ms[j]?).getD 0 % 1000000007).map V.int)) := by rw [eD, List.map_map]; rfl
  have eC4 := s4 _ _ eC3
  refine ⟨_, rfl, C, _, rfl, .inl (.of eC4), _, _, rfl, rfl, (by show 1 ≤ sizeLine; decide), fun O nO => ?_⟩
  have yO := same_new nO (.lst [V.int (((ms.map V.int).length : Nat) + 1)])
  refine ⟨D, O, _, _, rfl, rfl, yO _ _ eD', upd_same, by rw [List.length_map, List.length_map, sizeLine_eq]; show i2.length + 1 ≤ _; omega, fun S nS => ?_⟩
  have eS : (upd (upd H4 O (.lst [V.int (((ms.map V.int).length : Nat) + 1)])) S (.lst ((i2.map fun j => (ms[j]?).getD 0 % 1000000007).map V.int ++ [V.int (((ms.map V.int).length : Nat) + 1)]))) S = some (.lst (((i2.map fun j => (ms[j]?).getD 0 % 1000000007) ++ [((ms.length : Nat) : Int) + 1]).map V.int)) := by
    rw [upd_same, List.map_append, List.length_map]; rfl
  have yS := same_new nS (.lst ((i2.map fun j => (ms[j]?).getD 0 % 1000000007).map V.int ++ [V.int (((ms.map V.int).length : Nat) + 1)]))
  have s4S := yO.trans yS
  generalize upd (upd H4 O (.lst [V.int (((ms.map V.int).length : Nat) + 1)])) S (.lst ((i2.map fun j => (ms[j]?).getD 0 % 1000000007).map V.int ++ [V.int (((ms.map V.int).length : Nat) + 1)])) = H5 at *
  have eB5 := s4S _ _ (s4 _ _ eB')
  have s0 : Same H H5 := y1.trans (s2.trans (s3.trans (s4.trans s4S)))
  refine ⟨_, rfl, _, rfl, _, rfl, S, _, rfl, .of eS, .inl ⟨_, rfl, _, _, rfl, rfl, (by show (0 : Int) < _; decide), (by show 4 ≤ sizeLine; decide), fun P0 nP => ?_⟩⟩
  have nBS : B ≠ S := fun h => by
    have := yO _ _ (s4 _ _ eB')
    rw [h, nS] at this
    cases this
  refine q P0 B S _ (s0.trans (same_new nP _)) (Same.free s0 nP) (Same.free (y1.trans s2) nB) (Same.free (y1.trans (s2.trans (s3.trans (s4.trans yO)))) nS) ⟨_, _, 0, _, upd_same, same_new nP _ _ _ eB5, same_new nP _ _ _ eS, nBS, ?_, ?_, fun x mx => ?_, Int.le_refl _, Int.emod_nonneg _ (by decide), Int.emod_lt_of_pos _ (by decide)⟩
  · rw [List.length_append]; show 1 ≤ _ + 1; omega
  · rw [List.length_append, List.length_map]; show i2.length + 1 ≤ 64; omega
  · rcases List.mem_append.mp mx with mx | mx
    · obtain ⟨j, _, rfl⟩ := List.mem_map.mp mx
      exact ⟨Int.emod_nonneg _ (by decide), Int.emod_lt_of_pos _ (by decide)⟩
    · rw [List.mem_singleton.mp mx]
      omega
end
end KL
end
section
set_option maxHeartbeats 1000000
namespace KL
open PySem PySem.Spec PyProof.Rows L2
def rSlZ (K : PySem.W.Frag) : V → Option Int → Option Int → Hp → VK → Prop := fun x lo hi H Q => ∃ (Z : Zone) (ds : List Th), At Z H (.tup ds) x ∧ (∀ a, Z a → Trk H a) ∧ ∀ v H', Same H H' → At Z H' (.tup (cutT ds lo hi)) v → Q v H'
section
variable {X : Cx}
theorem sl_exactZ : SlR X (rSlZ X.K) := by
  intro pins s σ H x v vl vu lo hi sl Q I rx hs pl pu h
  refine sl_tupA pins s σ H x v vl vu lo hi sl Q I rx hs pl pu ?_
  obtain ⟨Z, ds, h, hW, q⟩ := h
  obtain ⟨a, vs, rfl, na, e, ha⟩ := id h
  refine ⟨a, vs, rfl, .of e, fun hh => ?_, fun _ p hp => ?_⟩
  · rw [ha.len] at hh
    have e2 : cutT ds lo hi = ds := by unfold cutT; rw [hh.1, hh.2]; simp
    have q2 := q (.ref a) H (Same.refl H)
    rw [e2] at q2
    exact q2 h
  · have sp := same_new hp (.tup (cutV vs lo hi))
    refine q _ _ sp ⟨p, _, rfl, fun z => hW p z hp, upd_same, ?_⟩
    unfold cutT
    rw [← ha.len]
    exact ((ha.drop _).take _).same sp
end
/-- a thing that can be compared, and judged -/
structure Fine (dd : Th) : Prop where
  sm : SmallF dd
  sh : shortT dd = true
  ly : (py dd).canLay0 = true
  dp : dp dd ≤ 64
/-- an item -/
structure Item (it : Th) : Prop where
  fr : fracB it = true → (topI it).natAbs < 2 ^ 4100 ∧ (botI it).natAbs < 2 ^ 4100
  sh : shortT it = true
  ly : (py it).canLay0 = true
  dp : dp it ≤ 2
theorem dpL_le {n : Nat} : ∀ {xs : List Th}, (∀ x ∈ xs, dp x ≤ n) → dpL xs ≤ n
  | [], _ => Nat.zero_le _
  | x :: xs, h => Nat.max_le.mpr ⟨h x List.mem_cons_self, dpL_le fun y m => h y (List.mem_cons_of_mem _ m)⟩
theorem shortL_all : ∀ {xs : List Th}, (∀ x ∈ xs, shortT x = true) → shortL xs = true
  | [], _ => rfl
  | x :: xs, h => by
    show (shortT x && shortL xs) = true
    rw [h x List.mem_cons_self, shortL_all fun y m => h y (List.mem_cons_of_mem _ m)]; rfl
theorem short_tup' {xs : List Th} (hl : xs.length ≤ 1000000) (h : ∀ x ∈ xs, shortT x = true) : shortT (.tup xs) = true := by
  show (decide (xs.length ≤ 1000000) && shortL xs) = true
  rw [decide_eq_true hl, shortL_all h]; rfl
theorem Item.pair {x y : Int} (hx : x.natAbs < 2 ^ 4100) (hy : y.natAbs < 2 ^ 4100) : Item (.tup [.int x, .int y]) where
  fr := fun _ => ⟨hx, hy⟩
  sh := rfl
  ly := lay_tup fun a m => by
    rcases List.mem_cons.mp m with rfl | m
    · exact lay_int _
    · rw [List.mem_singleton.mp m]; exact lay_int _
  dp := by show max 0 (max 0 0) + 1 ≤ 2; decide
theorem Item.non : Item .non := ⟨(fun h => nomatch h), rfl, lay_non, Nat.zero_le _⟩
theorem Item.int (i : Int) : Item (.int i) := ⟨(fun h => nomatch h), rfl, lay_int i, Nat.zero_le _⟩
theorem lay_lst' {xs : List Th} (h : ∀ x ∈ xs, (py x).canLay0 = true) : (py (.lst xs)).canLay0 = true := by
  rw [py]
  simp only [PyData.canLay0]
  exact layL h
theorem Item.lst {x y : Int} : Item (.lst [.int x, .int y]) where
  fr := fun h => nomatch h
  sh := rfl
  ly := lay_lst' fun a m => by
    rcases List.mem_cons.mp m with rfl | m
    · exact lay_int _
    · rw [List.mem_singleton.mp m]; exact lay_int _
  dp := by show max 0 (max 0 0) + 1 ≤ 2; decide
/-- fractions whose bottoms divide D -/
structure Fracs (D : Nat) (fs : List Th) : Prop where
  D0 : 0 < D
  D1 : D < 2 ^ 4000
  fr : ∀ f ∈ fs, fracB f = true
  tp : ∀ f ∈ fs, (topI f).natAbs < 2 ^ 4000
  bt : ∀ f ∈ fs, (botI f).natAbs ∣ D
theorem Fracs.item {D : Nat} {fs : List Th} (h : Fracs D fs) {f : Th} (m : f ∈ fs) : Item f := by
  have e := (fracB_is (h.fr f m)).1
  have b : (botI f).natAbs < 2 ^ 4000 := Nat.lt_of_le_of_lt (Nat.le_of_dvd h.D0 (h.bt f m)) h.D1
  have p : (2 : Nat) ^ 4000 ≤ 2 ^ 4100 := Nat.pow_le_pow_right (by decide) (by decide)
  rw [e]
  exact .pair (Nat.lt_of_lt_of_le (h.tp f m) p) (Nat.lt_of_lt_of_le b p)
/-- items that stand in fs, but for one -/
theorem Fine.tup {D : Nat} {fs xs : List Th} (h : Fracs D fs) {it : Th} (hi : Item it) (hl : xs.length ≤ 1000) (hx : ∀ x ∈ xs, x ∈ fs ∨ x = it) : Fine (.tup xs) := by
  have im : ∀ x ∈ xs, Item x := fun x m => (hx x m).elim (fun m => h.item m) (fun e => e ▸ hi)
  refine ⟨fun ys e hB => ?_, short_tup' (by omega) fun x m => (im x m).sh, lay_tup fun x m => (im x m).ly, ?_⟩
  · injection e with e
    subst e
    refine ⟨fun f m => ((im f m).fr (hB f m)).1, ?_⟩
    by_cases hf : fracB it = true
    · refine ⟨D * (botI it).natAbs, Nat.mul_pos h.D0 (botI_nz _ hf), ?_, fun f m => ?_⟩
      · refine Nat.lt_of_lt_of_le (Nat.mul_lt_mul'' h.D1 (hi.fr hf).2) ?_
        rw [← Nat.pow_add]
        exact Nat.pow_le_pow_right (by decide) (by decide)
      · rcases hx f m with m | e
        · exact Nat.dvd_trans (h.bt f m) (Nat.dvd_mul_right _ _)
        · rw [e]; exact Nat.dvd_mul_left _ _
    · refine ⟨D, h.D0, Nat.lt_of_lt_of_le h.D1 (Nat.pow_le_pow_right (by decide) (by decide)), fun f m => ?_⟩
      rcases hx f m with m2 | e
      · exact h.bt f m2
      · have := hB f m
        rw [e] at this
        exact absurd this hf
  · have := dpL_le fun x m => (im x m).dp
    show dpL xs + 1 ≤ 64
    omega
theorem Fine.lst {D : Nat} {fs : List Th} (h : Fracs D fs) (hl : fs.length ≤ 1000) : Fine (.lst fs) := by
  refine ⟨(fun ys e => nomatch e), rfl, lay_lst' fun x m => (h.item m).ly, ?_⟩
  have := dpL_le fun x m => (h.item (f := x) m).dp
  show dpL fs + 1 ≤ 64
  omega
theorem Fine.non : Fine .non := ⟨(fun ys e => nomatch e), rfl, lay_non, Nat.zero_le _⟩
def spBent : Sp := fun vs H Q _ => ∃ (P G S : Addr) (v : V) (D : Nat) (fs : List Th), vs = [.ref P, v] ∧ PotAt P G S H ∧ At (AtP P G) H (.tup fs) v ∧ 1 ≤ fs.length ∧ fs.length ≤ 30 ∧ Fracs D fs ∧
  ∀ v' dd H', SB (AtP P G) H H' → PotAt P G S H' → At (AtP P G) H' dd v' → Fine dd → Q v' H'
section
variable {P : Program} {w : World} {K : PySem.W.Frag} {mg : Str → Option Value} {base : Heap} {k : Nat} {t1 t2 t3 : Tok}
end
end KL
end
section
set_option maxHeartbeats 1000000
namespace KL
open PySem PySem.Spec PyProof.Rows L2
abbrev sc_law_trimN : List Str := ["_law_machine_here", "_law_size", "_law_rows", "_law_first", "_law_last", "_law_turn", "_law_state", "_law_later_here", "_law_kept", "_law_found", "_law_steps", "_law_step", "_law_other"]
abbrev s_law_trim : Stmt := topS 41
theorem sc_law_trim : FnScope ["_law_machine_here", "_law_size", "_law_rows", "_law_first", "_law_last", "_law_turn", "_law_state", "_law_later_here", "_law_kept", "_law_found", "_law_steps", "_law_step", "_law_other"] ["_law_machine_here"] (defScope s_law_trim) := ⟨rfl, rfl, rfl, by decide +kernel, rfl, by decide +kernel, by decide +kernel⟩
/-! ### d.update(e), both dicts -/
def rDUpd : V → List V → Hp → VK → Prop := fun x vs H Q => ∃ l b xs zs, x = .ref l ∧ vs = [.ref b] ∧ l ≠ b ∧ H l = some (.dK xs) ∧ H b = some (.dK zs) ∧ xs.length + zs.length ≤ sizeLine ∧ Q .non (upd H l (.dK (mergeK xs zs)))
theorem mt_dupd {X : Cx} : MtM X "dict.update" rDUpd := by
  intro pins s σ H x vs v us Q I rx rv h
  obtain ⟨l, b, xs, zs, rfl, rfl, hne, hH, hB, hz, q⟩ := h
  cases rx
  obtain ⟨u, rfl, ru⟩ := rv.one
  cases ru
  obtain ⟨z, hd, us1, rel, dd⟩ := dk_of I.hok hH
  obtain ⟨z2, hd2, us2, rel2, dd2⟩ := dk_of I.hok hB
  refine call_meetsIn PySem.F.slot_dict_update dd.typeIs PySem.F.entry_dict_update (PySem.F.args_dict_update_2 _ _) (meets_dict_update (mixKind X.prog X.w) l b hne hd2) ⟨us1, us2, dd, dd2, by rw [← rel.length, ← rel2.length]; exact hz, fun h' dd' _ hs => ?_⟩
  have he : ∃ q, h'.get? l = some q := let ⟨q, _, _, hq, _⟩ := dd'; ⟨q, hq⟩
  have hl : (mergeK xs zs).length ≤ sizeLine := Nat.le_trans (length_mergeK zs xs) hz
  exact ⟨.non, _, d_write (t' := s.toks) I (by rw [hH]; exact True.intro) hs he (dk_new hl hd (KV.merge rel2 rel) dd'), rfl, q⟩
structure Gdi (mg : Str → Option Value) : Prop where
  dict : mg "dict" = none
/-! ### keys of a dict as a set of states -/
def inK (kvs : List (Key × V)) (s : Nat) : Bool := (valV kvs (Sum.inl (s : Int))).isSome
theorem inK_put (kvs : List (Key × V)) (t s : Nat) (v : V) : inK (putK kvs (Sum.inl (t : Int)) v) s = (decide (s = t) || inK kvs s) := by
  unfold inK
  rw [valV_put]
  by_cases e : s = t
  · subst e; rw [if_pos rfl, decide_eq_true rfl]; rfl
  · rw [if_neg (fun h => e (by injection h with h; exact Int.ofNat.inj h)), decide_eq_false e, Bool.false_or]
theorem inK_merge (s : Nat) : ∀ (zs xs : List (Key × V)), inK (mergeK xs zs) s = (inK xs s || inK zs s)
  | [], xs => by show inK xs s = (inK xs s || false); rw [Bool.or_false]
  | (k, v) :: zs, xs => by
    show inK (mergeK (putK xs k v) zs) s = _
    rw [inK_merge s zs]
    by_cases e : k = Sum.inl (s : Int)
    · subst e
      rw [inK_put, decide_eq_true rfl, Bool.true_or, Bool.true_or]
      have : inK ((Sum.inl (s : Int), v) :: zs) s = true := by unfold inK; rw [valV_pos rfl]; rfl
      rw [this, Bool.or_true]
    · have h1 : inK (putK xs k v) s = inK xs s := by
        unfold inK
        rw [valV_put, if_neg (fun h => e h.symm)]
      have h2 : inK ((k, v) :: zs) s = inK zs s := by
        unfold inK
        rw [valV_neg (p := (k, v)) e]
      rw [h1, h2]
abbrev flags (us : List Nat) : List (Key × V) := us.map fun u : Nat => (Sum.inl (u : Int), V.bl true)
theorem inK_flags (s : Nat) : ∀ us : List Nat, inK (flags us) s = decide (s ∈ us)
  | [] => rfl
  | u :: us => by
    have ih := inK_flags s us
    unfold inK at ih ⊢
    by_cases e : u = s
    · subst e
      show (valV ((Sum.inl (u : Int), V.bl true) :: flags us) (Sum.inl (u : Int))).isSome = _
      rw [valV_pos rfl, decide_eq_true List.mem_cons_self]; rfl
    · show (valV ((Sum.inl (u : Int), V.bl true) :: flags us) (Sum.inl (s : Int))).isSome = _
      rw [valV_neg (fun h => e (by injection h with h; exact Int.ofNat.inj h)), ih]
      exact decide_eq_decide.mpr ⟨fun m => List.mem_cons_of_mem _ m, fun m => (List.mem_cons.mp m).resolve_left fun h => e h.symm⟩
theorem inK_up (xs : List (Key × V)) (us : List Nat) (s : Nat) : inK (mergeK xs (mergeK [] (flags us))) s = (inK xs s || decide (s ∈ us)) := by
  rw [inK_merge, inK_merge, inK_flags]
  rfl
theorem pairs_flags {K : PySem.W.Frag} {Z : Zone} {H : Hp} : ∀ {us : List Nat} {vs : List V}, AtAll Z H (us.map fun u : Nat => Th.tup [.int (u : Int), .bl true]) vs → ∃ pp : List Addr, vs = pp.map V.ref ∧ Paired (fun p (kv : Key × V) => SqT K H p [kV kv.1, kv.2]) pp (flags us)
  | [], _, h => ⟨[], by rw [show _ = [] from h]; rfl, .nil⟩
  | u :: us, _, ⟨v, vs, rfl, h1, h2⟩ => by
    obtain ⟨pp, rfl, pd⟩ := pairs_flags (K := K) h2
    obtain ⟨q, a, b, rfl, e, ha, hb⟩ := h1.pair
    cases (show a = _ from ha)
    cases (show b = _ from hb)
    exact ⟨q :: pp, rfl, .cons (.of e) pd⟩
/-! ### rounds that fill a set -/
def cntB (p : Nat → Bool) : Nat → Nat
  | 0 => 0
  | n + 1 => cntB p n + if p n = true then 1 else 0
theorem cntB_le (p : Nat → Bool) : ∀ n, cntB p n ≤ n
  | 0 => Nat.le_refl _
  | n + 1 => by
    have := cntB_le p n
    rw [cntB]
    split <;> omega
theorem cntB_mono {p q : Nat → Bool} (h : ∀ s, p s = true → q s = true) : ∀ n, cntB p n ≤ cntB q n
  | 0 => Nat.le_refl _
  | n + 1 => by
    have := cntB_mono h n
    rw [cntB, cntB]
    by_cases e : p n = true
    · rw [if_pos e, if_pos (h n e)]; omega
    · rw [if_neg e]; omega
theorem cntB_lt {p q : Nat → Bool} (h : ∀ s, p s = true → q s = true) {s : Nat} (hp : ¬ p s = true) (hq : q s = true) : ∀ {n : Nat}, s < n → cntB p n < cntB q n
  | 0, h => by omega
  | n + 1, hs => by
    have m := cntB_mono h n
    rw [cntB, cntB]
    by_cases e : s = n
    · subst e
      rw [if_neg hp, if_pos hq]; omega
    · have := cntB_lt h hp hq (show s < n by omega)
      by_cases e2 : p n = true
      · rw [if_pos e2, if_pos (h n e2)]; omega
      · rw [if_neg e2]; omega
theorem cntB_all {p : Nat → Bool} : ∀ {n : Nat}, n ≤ cntB p n → ∀ s, s < n → p s = true
  | 0, _, s, hs => by omega
  | n + 1, h, s, hs => by
    have l := cntB_le p n
    rw [cntB] at h
    by_cases e : p n = true
    · rw [if_pos e] at h
      by_cases es : s = n
      · subst es; exact e
      · exact cntB_all (n := n) (by omega) s (by omega)
    · rw [if_neg e] at h; omega
theorem cntB_pos {p : Nat → Bool} {n : Nat} (h : p 0 = true) (hn : 1 ≤ n) : 1 ≤ cntB p n := by
  have := cntB_lt (p := fun _ => false) (q := p) (fun s h => nomatch h) (s := 0) (by decide) h (n := n) (by omega)
  omega
abbrev nxl (rows : List Th) (s : Nat) : List Nat := ((nxs rows)[s]?).getD []
/-- closed: forwards, and backwards -/
def ClF (rows : List Th) (F : Nat → Bool) : Prop := ∀ s, s < rows.length → F s = true → ∀ u ∈ nxl rows s, F u = true
def ClL (rows : List Th) (L : Nat → Bool) : Prop := ∀ s, s < rows.length → (isEnd rows s ∨ ∃ u ∈ nxl rows s, L u = true) → L s = true
/-- within a round that began with F, L: states below i are done -/
structure RndF (rows : List Th) (i : Nat) (F F1 : Nat → Bool) : Prop where
  up : ∀ s, F s = true → F1 s = true
  dn : ∀ s, s < i → F s = true → ∀ u ∈ nxl rows s, F1 u = true
  cl : ClF rows F → ∀ s, F1 s = true → F s = true
  snd : ∀ s, F1 s = true → s < rows.length ∧ Rc rows 0 s
structure RndL (rows : List Th) (i : Nat) (L L1 : Nat → Bool) : Prop where
  up : ∀ s, L s = true → L1 s = true
  dn : ∀ s, s < i → (isEnd rows s ∨ ∃ u ∈ nxl rows s, L u = true) → L1 s = true
  cl : ClL rows L → ∀ s, L1 s = true → L s = true
  snd : ∀ s, L1 s = true → s < rows.length ∧ lvE rows s
section
variable {z : Int} {rows : List Th}
theorem RndF.next (ok : MOk z rows) {i : Nat} {F F1 F2 : Nat → Bool} (h : RndF rows i F F1) (hi : i < rows.length) (e : ∀ s, F2 s = true ↔ F1 s = true ∨ (F1 i = true ∧ s ∈ nxl rows i)) : RndF rows (i + 1) F F2 where
  up := fun s q => (e s).mpr (.inl (h.up s q))
  dn := fun s hs q u m => by
    by_cases es : s = i
    · subst es
      exact (e u).mpr (.inr ⟨h.up s q, m⟩)
    · exact (e u).mpr (.inl (h.dn s (by omega) q u m))
  cl := fun c s q => by
    rcases (e s).mp q with q | ⟨q, m⟩
    · exact h.cl c s q
    · exact c i hi (h.cl c i q) s m
  snd := fun s q => by
    rcases (e s).mp q with q | ⟨q, m⟩
    · exact h.snd s q
    · have r : Rc rows 0 s := .step (h.snd i q).2 m
      exact ⟨ok.rc_lt ok.n1 r, r⟩
theorem RndL.next (ok : MOk z rows) {i : Nat} {L L1 L2 : Nat → Bool} (h : RndL rows i L L1) (hi : i < rows.length) (e : ∀ s, L2 s = true ↔ L1 s = true ∨ (s = i ∧ (isEnd rows i ∨ ∃ u ∈ nxl rows i, L1 u = true))) : RndL rows (i + 1) L L2 where
  up := fun s q => (e s).mpr (.inl (h.up s q))
  dn := fun s hs q => by
    by_cases es : s = i
    · subst es
      exact (e s).mpr (.inr ⟨rfl, q.imp_right fun ⟨u, m, k⟩ => ⟨u, m, h.up u k⟩⟩)
    · exact (e s).mpr (.inl (h.dn s (by omega) q))
  cl := fun c s q => by
    rcases (e s).mp q with q | ⟨rfl, q⟩
    · exact h.cl c s q
    · exact c s hi (q.imp_right fun ⟨u, m, k⟩ => ⟨u, m, h.cl c u k⟩)
  snd := fun s q => by
    rcases (e s).mp q with q | ⟨rfl, q⟩
    · exact h.snd s q
    · refine ⟨hi, ?_⟩
      rcases q with q | ⟨u, m, k⟩
      · exact isEnd_lvE q
      · exact lvE_head m (h.snd u k).2
theorem RndF.start {F : Nat → Bool} (snd : ∀ s, F s = true → s < rows.length ∧ Rc rows 0 s) : RndF rows 0 F F := ⟨fun _ q => q, fun s hs => by omega, fun _ _ q => q, snd⟩
theorem RndL.start {L : Nat → Bool} (snd : ∀ s, L s = true → s < rows.length ∧ lvE rows s) : RndL rows 0 L L := ⟨fun _ q => q, fun s hs => by omega, fun _ _ q => q, snd⟩
theorem RndF.fin {F F1 : Nat → Bool} {t : Nat} (h : RndF rows rows.length F F1) (ok : MOk z rows) (q : ClF rows F ∨ t + 1 ≤ cntB F rows.length) : ClF rows F1 ∨ t + 1 + 1 ≤ cntB F1 rows.length := by
  by_cases c : ClF rows F
  · exact .inl fun s hs k u m => h.up u (c s hs (h.cl c s k) u m)
  · refine .inr ?_
    have c2 : ∃ s, s < rows.length ∧ F s = true ∧ ∃ u ∈ nxl rows s, ¬ F u = true := by
      refine Classical.byContradiction fun n => c fun s hs k u m => Classical.byContradiction fun x => n ⟨s, hs, k, u, m, x⟩
    obtain ⟨s, hs, k, u, m, x⟩ := c2
    have y := h.dn s hs k u m
    have := cntB_lt h.up x y (h.snd u y).1
    have := q.resolve_left c
    omega
theorem RndL.fin {L L1 : Nat → Bool} {t : Nat} (h : RndL rows rows.length L L1) (q : ClL rows L ∨ t ≤ cntB L rows.length) : ClL rows L1 ∨ t + 1 ≤ cntB L1 rows.length := by
  by_cases c : ClL rows L
  · exact .inl fun s hs k => h.up s (c s hs (k.imp_right fun ⟨u, m, k⟩ => ⟨u, m, h.cl c u k⟩))
  · refine .inr ?_
    have c2 : ∃ s, s < rows.length ∧ (isEnd rows s ∨ ∃ u ∈ nxl rows s, L u = true) ∧ ¬ L s = true := by
      refine Classical.byContradiction fun n => c fun s hs k => Classical.byContradiction fun x => n ⟨s, hs, k, x⟩
    obtain ⟨s, hs, k, x⟩ := c2
    have := cntB_lt h.up x (h.dn s hs k) hs
    have := q.resolve_left c
    omega
theorem doneF (ok : MOk z rows) {F : Nat → Bool} (f0 : F 0 = true) (snd : ∀ s, F s = true → s < rows.length ∧ Rc rows 0 s) (q : ClF rows F ∨ rows.length + 1 ≤ cntB F rows.length) (s : Nat) : F s = true ↔ Rc rows 0 s := by
  have c : ClF rows F := q.resolve_right fun h => by have := cntB_le F rows.length; omega
  refine ⟨fun h => (snd s h).2, fun r => ?_⟩
  induction r with
  | base m => rw [List.mem_singleton.mp m]; exact f0
  | step r m ih => exact c _ (snd _ ih).1 ih _ m
theorem doneL (ok : MOk z rows) {L : Nat → Bool} (snd : ∀ s, L s = true → s < rows.length ∧ lvE rows s) (q : ClL rows L ∨ rows.length ≤ cntB L rows.length) (s : Nat) (hs : s < rows.length) : L s = true ↔ lvE rows s := by
  refine ⟨fun h => (snd s h).2, fun ⟨e, r, he⟩ => ?_⟩
  rcases q with c | a
  · have key : ∀ b, Rc rows s b → L b = true → L s = true := fun b r => by
      induction r with
      | base m => rw [List.mem_singleton.mp m]; exact fun h => h
      | step r m ih => exact fun h => ih (c _ (ok.rc_lt hs r) (.inr ⟨_, m, h⟩))
    exact key e r (c e (ok.rc_lt hs r) (.inl he))
  · exact cntB_all a s hs
end
section
variable {P : Program} {w : World} {K : PySem.W.Frag} {mg : Str → Option Value} {base : Heap} {k : Nat} {t1 t2 t3 : Tok}
theorem ok_law_trim (Z : Zs mg) (Gd : Gdi mg) (d : Def K mg "_law_trim" s_law_trim ["_law_machine_here"]) : Cal P w K mg base CX0 (k + 1) "_law_trim" ["_law_machine_here"] spLTrim := by
  refine d.ok sc_law_trim (fun vs H Q E h => ?_) (fun f cdv A outer s H vs Q E hr h => ?_)
  · obtain ⟨_, _, _, _, rfl, _⟩ := h; rfl
  obtain ⟨Zn, u, z, rows, rfl, hu, ok, q⟩ := h
  refine ⟨_, (pss_cons (ps_asg (pv 0) (pg_tup (by rfl) (pgs_cons (pg_name (i := 1) sc_law_trim.nd rfl (Or.inl rfl)) (pgs_cons (pg_name (i := 2) sc_law_trim.nd rfl (Or.inl rfl)) pgs_nil))))
      (pss_cons (ps_asg (pe_tup (pa_cons (pe_disp (pps_cons pe_int pe_bl pps_nil) (by rfl) (by rfl) (fun z => by cases z) (by decide)) (pa_cons pe_dnewK pa_nil))) (pg_tup (by rfl) (pgs_cons (pg_name (i := 3) sc_law_trim.nd rfl (Or.inr rfl)) (pgs_cons (pg_name (i := 4) sc_law_trim.nd rfl (Or.inr rfl)) pgs_nil))))
      (pss_cons (ps_for PassesOwn.never rfl (pi_range1 (by rfl) Z.range (pa_cons (pe_callB (id := "len") call_len_seq (by rfl) Z.len (by decide +kernel) (pa_cons (pv 2) pa_nil)) pa_nil)) (pg_name (i := 5) sc_law_trim.nd rfl (Or.inl rfl)) (pss_one (ps_for PassesOwn.never rfl (pi_range1 (by rfl) Z.range (pa_cons (pe_callB (id := "len") call_len_seq (by rfl) Z.len (by decide +kernel) (pa_cons (pv 2) pa_nil)) pa_nil)) (pg_name (i := 6) sc_law_trim.nd rfl (Or.inl rfl)) (pss_cons (ps_setLc (i := 7) (own := [("_law_step", 11)]) (g := gName 11) (tt := _) rfl sc_law_trim.nd rfl rfl (sw_true rfl rfl rfl (by decide +kernel)) (pi_tup (pe_ix ix_tup (pe_ix ix_tup (pv 2) (pv 6) (fun _ _ => rfl)) pe_int (fun _ _ => rfl))) (blkOk_by (N := ["_law_machine_here", "_law_size", "_law_rows", "_law_first", "_law_last", "_law_turn", "_law_state", "_law_later_here", "_law_kept", "_law_found", "_law_steps", "_law_step", "_law_other"]) (sc := defScope s_law_trim) (by decide +kernel)) (fun _ _ _ _ _ => (pg_name (i := 11) sc_law_trim.nd rfl (Or.inl rfl))) (fun _ _ _ _ _ => (pts_one (pt_cmpR op_notN (pv 11) pe_non (nomark _)))) (fun _ _ _ _ _ => (pe_ix (r := rIxT K) ix_tup (pv 11) pe_int (fun _ _ => rfl))))
      (pss_cons (ps_if (pt_cmp (pc_din (hu_of hr) (pv 6) (pv 3))) (pss_one (ps_expr (pe_bm PySem.F.plainAttrs_dict PySem.F.slot_dict_update PySem.F.type_dict_update mt_dupd (pv 3) (pa_cons (pe_callTy (T := "dict") (call_dictP rfl) (by rfl) Gd.dict (by decide +kernel) (pa_cons (pe_lc (own := [("_law_other", 12)]) (g := gName 12) (tt := tYes) rfl sc_law_trim.nd (pi_list (pv 7)) (blkOk_by (N := ["_law_machine_here", "_law_size", "_law_rows", "_law_first", "_law_last", "_law_turn", "_law_state", "_law_later_here", "_law_kept", "_law_found", "_law_steps", "_law_step", "_law_other"]) (sc := defScope s_law_trim) (by decide +kernel)) (fun _ _ _ _ _ => (pg_name (i := 12) sc_law_trim.nd rfl (Or.inl rfl))) (fun _ _ _ _ _ => pts_nil) (fun _ _ _ _ _ => (pe_tup (pa_cons (pv 12) (pa_cons pe_bl pa_nil))))) pa_nil)) pa_nil)))) pss_nil)
      (pss_one (ps_if (PW.pt (pw_or (pt_cmpR op_notN (pe_ix ix_tup (pe_ix ix_tup (pv 2) (pv 6) (fun _ _ => rfl)) pe_int (fun _ _ => rfl)) pe_non (nomark _)) (pw_or1 (pt_val (pe_callB (id := "any") (cr_any rfl) (by rfl) Z.any (by decide +kernel) (pa_cons (pe_lc (own := [("_law_other", 12)]) (g := gName 12) (tt := tYes) rfl sc_law_trim.nd (pi_list (pv 7)) (blkOk_by (N := ["_law_machine_here", "_law_size", "_law_rows", "_law_first", "_law_last", "_law_turn", "_law_state", "_law_later_here", "_law_kept", "_law_found", "_law_steps", "_law_step", "_law_other"]) (sc := defScope s_law_trim) (by decide +kernel)) (fun _ _ _ _ _ => (pg_name (i := 12) sc_law_trim.nd rfl (Or.inl rfl))) (fun _ _ _ _ _ => pts_nil) (fun _ _ _ _ _ => (pe_cmp (pc_din (hu_of hr) (pv 12) (pv 4)) rfl))) pa_nil)))))) (pss_one (ps_dput (hu_of hr) (pv 4) (pv 6) pe_bl rfl)) pss_nil)))))))
      (pss_cons (ps_if (pt_cmp (pc_dnotin (hu_of hr) pe_int (pv 4))) (pss_one (ps_ret (pe_tup (pa_cons (pv 1) (pa_cons (pe_tup (pa_cons (pe_tup (pa_cons pe_non (pa_cons (pe_op op_repN (pe_tup (pa_cons pe_non pa_nil)) (pv 1)) pa_nil))) pa_nil)) pa_nil))))) pss_nil)
      (pss_cons (ps_setLc (i := 8) (own := [("_law_state", 6)]) (g := gName 6) (tt := _) rfl sc_law_trim.nd rfl rfl (sw_true rfl rfl rfl (by decide +kernel)) (pi_range1 (by rfl) Z.range (pa_cons (pe_callB (id := "len") call_len_seq (by rfl) Z.len (by decide +kernel) (pa_cons (pv 2) pa_nil)) pa_nil)) (blkOk_by (N := ["_law_machine_here", "_law_size", "_law_rows", "_law_first", "_law_last", "_law_turn", "_law_state", "_law_later_here", "_law_kept", "_law_found", "_law_steps", "_law_step", "_law_other"]) (sc := defScope s_law_trim) (by decide +kernel)) (fun _ _ _ _ _ => (pg_name (i := 6) sc_law_trim.nd rfl (Or.inl rfl))) (fun _ _ _ _ _ => (pts_one (PW.pt (pw_and (pt_cmp (pc_din (hu_of hr) (pv 6) (pv 3))) (pw_and1 (pt_cmp (pc_din (hu_of hr) (pv 6) (pv 4)))))))) (fun _ _ _ _ _ => (pv 6)))
      (pss_cons (ps_set (i := 9) sc_law_trim.nd rfl (Or.inl rfl) (pe_lst pa_nil))
      (pss_cons (ps_for PassesOwn.never rfl (pi_list (pv 8)) (pg_name (i := 6) sc_law_trim.nd rfl (Or.inl rfl)) (pss_cons (ps_set (i := 10) sc_law_trim.nd rfl (Or.inl rfl) (pe_lst pa_nil))
      (pss_cons (ps_for PassesOwn.never rfl (pi_tup (pe_ix ix_tup (pe_ix ix_tup (pv 2) (pv 6) (fun _ _ => rfl)) pe_int (fun _ _ => rfl))) (pg_name (i := 11) sc_law_trim.nd rfl (Or.inl rfl)) (pss_one (ps_expr (pe_bm PySem.F.plainAttrs_list PySem.F.slot_list_append PySem.F.type_list_append mt_append (pv 10) (pa_cons (pe_ifExp (PW.pt (pw_and (pt_cmpR op_notN (pv 11) pe_non (nomark _)) (pw_and1 (pt_cmpR op_in_seq (pe_ix ix_tup (pv 11) pe_int (fun _ _ => rfl)) (pv 8) (by rfl))))) (pe_tup (pa_cons (pe_ix ix_tup (pv 11) pe_int (fun _ _ => rfl)) (pa_cons (pe_bm PySem.F.plainAttrs_list PySem.F.slot_list_index PySem.F.type_list_index mt_index (pv 8) (pa_cons (pe_ix ix_tup (pv 11) pe_int (fun _ _ => rfl)) pa_nil)) pa_nil))) pe_non) pa_nil)))))
      (pss_one (ps_expr (pe_bm PySem.F.plainAttrs_list PySem.F.slot_list_append PySem.F.type_list_append mt_append (pv 9) (pa_cons (pe_tup (pa_cons (pe_ix ix_tup (pe_ix ix_tup (pv 2) (pv 6) (fun _ _ => rfl)) pe_int (fun _ _ => rfl)) (pa_cons (pe_callTy (T := "tuple") call_tuple_of (by rfl) Z.tuple (by decide +kernel) (pa_cons (pv 10) pa_nil)) pa_nil))) pa_nil)))))))
      (pss_one (ps_ret (pe_tup (pa_cons (pv 1) (pa_cons (pe_callTy (T := "tuple") call_tuple_of (by rfl) Z.tuple (by decide +kernel) (pa_cons (pv 9) pa_nil)) pa_nil)))))))))))), ?_⟩
  have n1 := ok.n1
  have n30 := ok.n30
  have z8 := ok.z8
  have z1 := ok.z1
  obtain ⟨p, pr, us, rfl, ep, epr, ar, _⟩ := At.mach hu
  have lu := ar.len
  refine ⟨_, rfl, p, _, rfl, .of ep, rfl, _, _, rfl, _, _, rfl, rfl, ?_⟩
  -- first, last
  refine fun F nF => ⟨upd_same, [(Sum.inl 0, .bl true)], rfl, by decide, fun L nL => ⟨(by show 2 ≤ sizeLine; decide), fun T nT => ?_⟩⟩
  have eFL : ∃ G0, Same H G0 ∧ G0 F = some (.dK (flags [0])) ∧ G0 L = some (.dK []) ∧ F ≠ L ∧ H L = none ∧ G0 = upd (upd (upd (upd H F (.dK [])) F (.dK (mergeK [] [(Sum.inl 0, .bl true)]))) L (.dK [])) T (.tup [.ref F, .ref L]) := by
    have y1 : Same H (upd (upd H F (.dK [])) F (.dK (mergeK [] [(Sum.inl 0, .bl true)]))) := Same.upd_new (same_new nF _) nF _
    have y2 := same_new nL (.dK [])
    have y3 := same_new nT (.tup [V.ref F, .ref L])
    exact ⟨_, y1.trans (y2.trans y3), y3 _ _ (y2 _ _ upd_same), y3 _ _ upd_same, (fun h => by rw [h, upd_same] at nL; cases nL), Same.free y1 nL, rfl⟩
  obtain ⟨G0, s0, eF0, eL0, nFL, nLH, eG0⟩ := eFL
  refine ⟨T, _, rfl, .of upd_same, rfl, _, _, rfl, _, _, rfl, rfl, ?_⟩
  rw [← eG0]
  clear eG0 nL nT
  refine ⟨_, rfl, pr, us, rfl, .inr (.of (s0 _ _ epr)), _, rfl, by omega, by omega, ?_⟩
  rw [lu, Int.toNat_natCast]
  refine for_range (lo := 0) (n := rows.length) (fun t σ' G => Same H G ∧ ∃ (kf kl : List (Key × V)) (y5 y6 y7 : Option V), σ' = [some (.ref p), some (.int z), some (.ref pr), some (.ref F), some (.ref L), y5, y6, y7, none, none, none, none, none] ∧ G F = some (.dK kf) ∧ G L = some (.dK kl) ∧ kf.length ≤ 1 + 240 * t ∧ kl.length ≤ 30 * t ∧ inK kf 0 = true ∧ (∀ s, inK kf s = true → s < rows.length ∧ Rc rows 0 s) ∧ (∀ s, inK kl s = true → s < rows.length ∧ lvE rows s) ∧ (ClF rows (inK kf) ∨ t + 1 ≤ cntB (inK kf) rows.length) ∧ (ClL rows (inK kl) ∨ t ≤ cntB (inK kl) rows.length))
    ⟨s0, flags [0], [], none, none, none, rfl, eF0, eL0, by decide, by decide, by decide, fun s hs => ?_, (fun s hs => nomatch hs), .inr (cntB_pos (by decide) n1), .inr (Nat.zero_le _)⟩ (fun t σ' G ht hh => ?_) (fun σ' G hh => ?_)
  · rw [inK_flags, decide_eq_true_eq, List.mem_singleton] at hs
    subst hs
    exact ⟨n1, Rc.rfl' rows 0⟩
  · obtain ⟨sG, kf, kl, y5, y6, y7, rfl, eF, eL, lkf, lkl, f0, sF, sL, cF, cL⟩ := hh
    refine ⟨_, rfl, pr, us, rfl, .inr (.of (sG _ _ epr)), _, rfl, by omega, by omega, ?_⟩
    rw [lu, Int.toNat_natCast]
    refine for_range (lo := 0) (n := rows.length) (fun i σ' G => Same H G ∧ ∃ (kf1 kl1 : List (Key × V)) (y6 y7 : Option V), σ' = [some (.ref p), some (.int z), some (.ref pr), some (.ref F), some (.ref L), some (.int (0 + (t : Nat))), y6, y7, none, none, none, none, none] ∧ G F = some (.dK kf1) ∧ G L = some (.dK kl1) ∧ kf1.length ≤ 1 + 240 * t + 8 * i ∧ kl1.length ≤ 30 * t + i ∧ inK kf1 0 = true ∧ RndF rows i (inK kf) (inK kf1) ∧ RndL rows i (inK kl) (inK kl1))
      ⟨sG, kf, kl, _, _, rfl, eF, eL, by omega, by omega, f0, .start sF, .start sL⟩ (fun i σ' G1 hi hh => ?_) (fun σ' G1 hh => ?_)
    · obtain ⟨sG1, kf1, kl1, y6', y7', rfl, eF1, eL1, lkf1, lkl1, f01, rF, rL⟩ := hh
      obtain ⟨pu, ve, ps, vs, e, ss, b1, b2, b3, b4, b5, b6, b7, b8, b9⟩ := row_at (ar.same sG1) ok hi
      have epr1 := sG1 _ _ epr
      have lvs := b8.len
      have a0i : atI us (0 + (i : Int)) = some (.ref pu) := by rw [Int.zero_add]; exact atI_nat b1
      have nxi : nxl rows i = ss.filterMap tgt := by
        show ((nxs rows)[i]?).getD [] = _
        rw [nxs_getD, b4]; rfl
      -- later
      refine ⟨_, rfl, _, rfl, pr, us, _, .ref pu, rfl, rfl, .of epr1, a0i, pu, _, 1, .ref ps, rfl, rfl, .of b2, rfl, ps, rfl, ⟨_, .of b3⟩, fun D2 hD2 => lc_tup (xs := vs) (fun j2 G => Same G1 G ∧ G D2 = some (.lst (((ss.take j2).filterMap tgt).map nV))) ⟨same_new hD2 _, upd_same⟩ (fun j2 G _ p2 => .of (p2.1 _ _ b3)) (fun j2 x2 G ex2 p2 => ?_) (fun G2 p2 => ?_)⟩
      · obtain ⟨sGa, eD2⟩ := p2
        have lj : j2 < ss.length := by rw [← lvs]; exact (List.getElem?_eq_some_iff.mp ex2).1
        have lf : (((ss.take j2).filterMap tgt).map nV).length < sizeLine := by
          rw [List.length_map, sizeLine_eq]
          have := List.length_filterMap_le tgt (ss.take j2)
          rw [List.length_take] at this
          omega
        refine ⟨rfl, _, rfl, rfl, _, rfl, ?_⟩
        rcases st_get (b8.same sGa) b9 ex2 with ⟨f1, rfl⟩ | ⟨q2, m, s2, f1, rfl, f2, _, m0, m1, s0, s1⟩
        · refine iteF ⟨sGa, ?_⟩
          rw [List.take_add_one, f1, List.filterMap_append]
          show G D2 = some (.lst (((List.take j2 ss).filterMap tgt ++ []).map nV))
          rw [List.append_nil]
          exact eD2
        · refine iteT ⟨_, rfl, q2, _, 1, .int s2, rfl, rfl, .of f2, rfl, _, eD2, lf, Same.upd_new sGa hD2 _, ?_⟩
          rw [upd_same, List.take_add_one, f1, List.filterMap_append, List.map_append]
          show some (HO.lst (_ ++ [V.int s2])) = some (HO.lst (_ ++ [V.int ((s2.toNat : Nat) : Int)]))
          rw [show ((s2.toNat : Nat) : Int) = s2 by omega]
      obtain ⟨sG2, eD2⟩ := p2
      rw [lvs, List.take_length, ← nxi] at eD2
      have lnx : (nxl rows i).length ≤ 8 := by
        rw [nxi]
        have := List.length_filterMap_le tgt ss
        omega
      have nD2H : H D2 = none := Same.free sG1 hD2
      have nD2F : D2 ≠ F := fun h => by rw [h, eF1] at hD2; cases hD2
      have nD2L : D2 ≠ L := fun h => by rw [h, eL1] at hD2; cases hD2
      have sH2 := sG1.trans sG2
      have eF2 := sG2 _ _ eF1
      have eL2 := sG2 _ _ eL1
      dsimp only [gName]
      -- if state in first
      refine rd_ifx (fun G' => Same H G' ∧ ∃ kf2, G' F = some (.dK kf2) ∧ G' L = some (.dK kl1) ∧ G' D2 = some (.lst ((nxl rows i).map nV)) ∧ kf2.length ≤ 1 + 240 * t + 8 * (i + 1) ∧ inK kf2 0 = true ∧ ∀ s, inK kf2 s = true ↔ inK kf1 s = true ∨ (inK kf1 i = true ∧ s ∈ nxl rows i)) (fun N hN => ?_) (fun G3 h3 => ?_)
      · refine ⟨_, rfl, _, rfl, F, _, rfl, (by rw [Int.zero_add]; exact DGet.k (k := Sum.inl (i : Int)) eF2), _, rfl, iteB (fun c => ?_) (fun c => ?_)⟩
        · have ci : inK kf1 i = true := c
          refine ⟨_, rfl, .inr (.inr (.inl ⟨rfl, .inl ⟨_, eF2⟩⟩)), ?_⟩
          refine ⟨_, rfl, D2, rfl, ⟨_, .of eD2⟩, lc_newW (f := fun j => .tup [.int (((nxl rows i)[j]?).getD 0 : Nat), .bl true]) walk_list (fun _ _ _ _ h => h) (fun G' s' => .of (s' _ _ eD2)) (by rw [List.length_map]; omega) (fun _ => rfl) (fun j x Ga hj ex sa R hR => ?_) (fun D3 Gb vsb sb nD3 eD3 aD3 => ?_)⟩
          · obtain ⟨u, eu, rfl⟩ := map_get ex
            refine ⟨_, rfl, (by show 2 ≤ sizeLine; decide), fun p9 n9 => hR _ _ (same_new n9 _) ⟨p9, _, rfl, Trk.not n9, upd_same, .cons ?_ (.cons rfl .nil)⟩⟩
            rw [eu]; rfl
          · rw [List.length_map, range_map_get (fun u : Nat => Th.tup [.int (u : Int), .bl true]) 0] at aD3
            obtain ⟨pp, rfl, pd⟩ := pairs_flags (K := K) aD3
            refine ⟨D3, pp, flags (nxl rows i), rfl, .of eD3, pd, fun E4 n4 => ?_⟩
            have y4 := same_new n4 (.dK (mergeK [] (flags (nxl rows i))))
            have eFb := sb _ _ eF2
            have sb4 := sb.trans y4
            have nE4F : F ≠ E4 := fun h => by rw [← h, eFb] at n4; cases n4
            have lm : (mergeK [] (flags (nxl rows i))).length ≤ 8 := Nat.le_trans (length_mergeK _ _) (by rw [List.length_map]; show 0 + _ ≤ 8; omega)
            have lm2 := length_mergeK (mergeK [] (flags (nxl rows i))) kf1
            refine ⟨F, E4, kf1, _, rfl, rfl, nE4F, y4 _ _ eFb, upd_same, by rw [sizeLine_eq]; omega, hN _ ⟨Same.upd_new (sH2.trans sb4) nF _, _, upd_same, by rw [upd_ne (fun h => nFL h.symm)]; exact sb4 _ _ eL2, by rw [upd_ne nD2F]; exact sb4 _ _ eD2, by omega, by rw [inK_up, f01]; rfl, fun s => ?_⟩⟩
            rw [inK_up, Bool.or_eq_true, decide_eq_true_eq]
            exact or_congr Iff.rfl ⟨fun h => ⟨ci, h⟩, fun h => h.2⟩
        · have ci : ¬ inK kf1 i = true := fun h => by
            have c' : inK kf1 i = false := c
            rw [h] at c'; cases c'
          exact hN _ ⟨sH2, kf1, eF2, eL2, eD2, by omega, f01, fun s => ⟨.inl, fun h => h.elim id fun h => absurd h.1 ci⟩⟩
      obtain ⟨sG3, kf2, eF3, eL3, eD3, lkf2, f02, mem2⟩ := h3
      have rF2 := rF.next ok hi mem2
      obtain ⟨pu', ve', ps', vs', e', ss', b1', b2', b3', b4', b5', b6', b7', b8', b9'⟩ := row_at (ar.same sG3) ok hi
      have a0i' : atI us (0 + (i : Int)) = some (.ref pu') := by rw [Int.zero_add]; exact atI_nat b1'
      have endi : isEnd rows i ↔ ¬ ve' = .non := by
        unfold isEnd
        rw [b4']
        show ¬ e' = .non ↔ _
        rcases b6' with ⟨rfl, rfl⟩ | ⟨i0, rfl, rfl⟩
        · exact ⟨(fun h => absurd rfl h), (fun h => absurd rfl h)⟩
        · exact ⟨(fun _ h => nomatch h), (fun _ h => nomatch h)⟩
      have setL : ∀ G4, Same H G4 → G4 F = some (.dK kf2) → G4 L = some (.dK kl1) → (isEnd rows i ∨ ∃ u ∈ nxl rows i, inK kl1 u = true) → Same H (upd G4 L (.dK (putK kl1 (Sum.inl (i : Int)) (.bl true)))) ∧ (upd G4 L (.dK (putK kl1 (Sum.inl (i : Int)) (.bl true)))) F = some (.dK kf2) ∧ RndL rows (i + 1) (inK kl) (inK (putK kl1 (Sum.inl (i : Int)) (.bl true))) ∧ (putK kl1 (Sum.inl (i : Int)) (.bl true)).length ≤ 30 * t + (i + 1) := fun G4 s4 e1 e2 hq => by
        refine ⟨Same.upd_new s4 nLH _, by rw [upd_ne nFL]; exact e1, rL.next ok hi fun s => ?_, ?_⟩
        · rw [inK_put, Bool.or_eq_true, decide_eq_true_eq]
          exact ⟨fun h => h.elim (fun h => .inr ⟨h, hq⟩) .inl, fun h => h.elim .inr fun h => .inl h.1⟩
        · have := length_putK kl1 (Sum.inl (i : Int)) (.bl true)
          omega
      refine ⟨_, rfl, _, rfl, pr, us, _, .ref pu', rfl, rfl, .of (sG3 _ _ epr), a0i', pu', _, 0, ve', rfl, rfl, .of b2', rfl, rfl, _, rfl, iteB (fun c => ?_) (fun c => ?_)⟩
      · have hq : isEnd rows i := endi.mpr (of_decide_eq_false (not_true c))
        obtain ⟨f1, f2, f3, f4⟩ := setL G3 sG3 eF3 eL3 (.inl hq)
        exact ⟨_, rfl, _, rfl, L, _, rfl, (by rw [Int.zero_add]; exact DPut.k (k := Sum.inl (i : Int)) eL3 (by rw [sizeLine_eq]; omega)), f1, _, _, _, _, rfl, f2, upd_same, lkf2, f4, f02, rF2, f3⟩
      · have ne : ¬ isEnd rows i := fun h => endi.mp h (of_decide_eq_true (not_false' c))
        refine ⟨_, rfl, D2, rfl, ⟨_, .of eD3⟩, lc_valW (f := fun j => .bl (inK kl1 (((nxl rows i)[j]?).getD 0))) (p := fun _ => true) walk_list (fun _ _ _ _ h => h) (fun G' s' => .of (s' _ _ eD3)) (by rw [List.length_map]; omega) (fun _ => rfl) (fun j x G hj ex sG R hR => hR G (Same.refl G)) (fun j x Ga hj ex hp sa R hR => ?_) (fun B Gb sb nB eB => ?_)⟩
        · obtain ⟨u, eu, rfl⟩ := map_get ex
          have := hR Ga (Same.refl Ga)
          rw [eu] at this
          exact ⟨_, rfl, _, rfl, L, _, rfl, DGet.k (k := Sum.inl (u : Int)) (sa _ _ eL3), this⟩
        · rw [filt_all, List.length_map] at eB
          have eB' : Gb B = some (.lst (((nxl rows i).map (inK kl1)).map V.bl)) := by
            rw [eB, List.map_map]
            congr 2
            exact range_map_get (fun u => V.bl (inK kl1 u)) 0 (nxl rows i)
          refine ⟨B, _, rfl, .of eB', _, rfl, iteB (fun c2 => ?_) (fun c2 => ?_)⟩
          · have hq : ∃ u ∈ nxl rows i, inK kl1 u = true := by
              rw [List.any_map, List.any_eq_true] at c2
              exact c2
            obtain ⟨f1, f2, f3, f4⟩ := setL Gb (sG3.trans sb) (sb _ _ eF3) (sb _ _ eL3) (.inr hq)
            exact ⟨_, rfl, _, rfl, L, _, rfl, (by rw [Int.zero_add]; exact DPut.k (k := Sum.inl (i : Int)) (sb _ _ eL3) (by rw [sizeLine_eq]; omega)), f1, _, _, _, _, rfl, f2, upd_same, lkf2, f4, f02, rF2, f3⟩
          · have nq : ¬ ∃ u ∈ nxl rows i, inK kl1 u = true := fun ⟨u, m, k⟩ => by
              rw [List.any_map] at c2
              exact List.any_eq_false.mp c2 u m k
            exact ⟨sG3.trans sb, _, _, _, _, rfl, sb _ _ eF3, sb _ _ eL3, lkf2, by omega, f02, rF2, rL.next ok hi fun s => ⟨.inl, fun h => h.elim id fun h => h.2.elim (fun h => absurd h ne) fun h => absurd h nq⟩⟩
    · obtain ⟨sG1, kf1, kl1, y6', y7', rfl, eF1, eL1, lkf1, lkl1, f01, rF, rL⟩ := hh
      exact ⟨sG1, kf1, kl1, _, _, _, rfl, eF1, eL1, by omega, by omega, f01, rF.snd, rL.snd, rF.fin ok cF, rL.fin cL⟩
  · obtain ⟨sG, kf, kl, y5, y6, y7, rfl, eF, eL, lkf, lkl, f0, sF, sL, cF, cL⟩ := hh
    have mF := doneF ok f0 sF cF
    have mL := doneL ok sL cL
    clear cF cL lkf lkl
    refine ⟨_, rfl, L, _, rfl, DGet.k (k := Sum.inl (0 : Int)) eL, _, rfl, iteB (fun c => ?_) (fun c => ?_)⟩
    · have c' : inK kl 0 = false := not_true c
      have h0 : 0 ∉ keep rows := fun m => by
        have := (mL 0 n1).mpr (mem_keep.mp m).2.2
        rw [c'] at this; cases this
      have hk : keep rows = [] := Classical.byContradiction fun n => h0 (keep_zero ok.n1 (keep_ne ok.n1 n))
      have fin : ∀ (pz : Addr) (Ga : Hp), Same H Ga → ¬ Trk H pz → Ga pz = some (.tup (List.replicate z.toNat .non)) → ∀ p2, Ga p2 = none → ∀ p3, upd Ga p2 (.tup [.non, .ref pz]) p3 = none → ∀ p4, upd (upd Ga p2 (.tup [.non, .ref pz])) p3 (.tup [.ref p2]) p4 = none → Q (.ref p4) (upd (upd (upd Ga p2 (.tup [.non, .ref pz])) p3 (.tup [.ref p2])) p4 (.tup [.int z, .ref p3])) := by
        intro pz Ga sGa nz ez p2 n2 p3 n3 p4 n4
        have y2 := same_new n2 (.tup [.non, .ref pz])
        have y3 := same_new n3 (.tup [.ref p2])
        have y4 := same_new n4 (.tup [.int z, .ref p3])
        have y34 := y3.trans y4
        refine q _ _ (sGa.trans (y2.trans y34)) ?_
        have tr : ∀ {a : Addr}, Trk H a → Trk Ga a := fun t => Trk.same sGa t
        have eT : trimT z rows = .tup [.int z, .tup [bareRow z]] := by unfold trimT trimL; rw [if_pos hk]
        rw [eT]
        refine ⟨p4, _, rfl, fun t => Trk.not n4 (Trk.same (y2.trans y3) (tr t)), upd_same, .cons rfl (.cons ⟨p3, _, rfl, fun t => Trk.not n3 (Trk.same y2 (tr t)), y4 _ _ upd_same, .cons ⟨p2, _, rfl, fun t => Trk.not n2 (tr t), y34 _ _ upd_same, .cons rfl (.cons ⟨pz, _, rfl, nz, y2.trans y34 _ _ ez, ?_⟩ .nil)⟩ .nil⟩ .nil)⟩
        exact atAll_rep _
      refine ⟨_, rfl, (by show 1 ≤ sizeLine; decide), fun p1 np1 => ⟨_, rfl, p1, z, _, rfl, rfl, .of upd_same, by omega, by omega, (by show 1 ≤ 1000; decide), fun er => ?_, fun p5 np5 => ?_⟩⟩
      · rw [repV_single] at er
        refine ⟨(by show 2 ≤ sizeLine; decide), fun p2 n2 => ⟨(by show 1 ≤ sizeLine; decide), fun p3 n3 => ⟨(by show 2 ≤ sizeLine; decide), fun p4 n4 => ?_⟩⟩⟩
        exact fin p1 _ (sG.trans (same_new np1 _)) (fun t => Trk.not np1 (Trk.same sG t)) (by rw [upd_same, er]) p2 n2 p3 n3 p4 n4
      · rw [repV_single]
        have y5 := same_new np5 (.tup (List.replicate z.toNat V.non))
        refine ⟨(by show 2 ≤ sizeLine; decide), fun p2 n2 => ⟨(by show 1 ≤ sizeLine; decide), fun p3 n3 => ⟨(by show 2 ≤ sizeLine; decide), fun p4 n4 => ?_⟩⟩⟩
        exact fin p5 _ (sG.trans ((same_new np1 _).trans y5)) (fun t => Trk.not np5 (Trk.same (sG.trans (same_new np1 _)) t)) upd_same p2 n2 p3 n3 p4 n4
    · have c' : inK kl 0 = true := not_false' c
      have h0 : 0 ∈ keep rows := keep_zero n1 ((mL 0 n1).mp c')
      have hk : keep rows ≠ [] := fun h => by rw [h] at h0; cases h0
      have kB : ∀ j, j < rows.length → (inK kf j && inK kl j) = keepB rows j := fun j hj => by
        rw [Bool.eq_iff_iff, Bool.and_eq_true, mF, mL j hj, keepB_iff]
        exact Iff.rfl
      -- stays
      refine ⟨_, rfl, pr, us, rfl, .inr (.of (sG _ _ epr)), _, rfl, by omega, by omega, ?_⟩
      rw [lu, Int.toNat_natCast]
      refine lc_valW (f := fun j => nV j) (p := keepB rows) (walk_range (lo := 0) (n := rows.length)) (fun _ _ _ _ h => h) (fun _ _ => trivial) (by omega) (fun _ => rfl) (fun j x Ga hj ex sa R hR => ?_) (fun j x Ga hj ex hp sa R hR => ?_) (fun S H3 s3 nS eS => ?_)
      · cases (show x = _ from ex)
        have r' := hR Ga (Same.refl Ga)
        rw [← kB j hj] at r'
        dsimp only
        rw [show (0 : Int) + (j : Int) = (j : Int) by omega]
        refine ⟨_, rfl, _, rfl, F, _, rfl, DGet.k (k := Sum.inl (j : Int)) (sa _ _ eF), _, rfl, iteB (fun c1 => ?_) (fun c1 => ?_)⟩
        · have c1' : inK kf j = true := c1
          rw [c1', Bool.true_and] at r'
          exact ⟨_, rfl, _, rfl, L, _, rfl, DGet.k (k := Sum.inl (j : Int)) (sa _ _ eL), _, rfl, r'⟩
        · have c1' : inK kf j = false := c1
          rw [c1', Bool.false_and] at r'
          exact r'
      · cases (show x = _ from ex)
        refine ⟨_, rfl, ?_⟩
        show R (V.int (0 + (j : Int))) Ga
        rw [show (0 : Int) + (j : Int) = (j : Int) by omega]
        exact hR Ga (Same.refl Ga)
      have eS' : H3 S = some (.lst ((keep rows).map nV)) := eS
      clear eS
      have s03 := sG.trans s3
      have lk := keep_len rows
      -- found
      refine ⟨(by show 0 ≤ sizeLine; decide), fun R nR => ?_⟩
      have zR := same_new nR (.lst [])
      have nRH : H R = none := Same.free s03 nR
      have nSR : S ≠ R := fun e => by rw [e, nR] at eS'; cases eS'
      refine ⟨_, rfl, S, rfl, ⟨_, .of (zR _ _ eS')⟩, for_list (xs := (keep rows).map nV) (fun j σ' H' => Same H3 H' ∧ ∃ (vs : List V) (y6 y10 y11 : Option V), σ' = [some (.ref p), some (.int z), some (.ref pr), some (.ref F), some (.ref L), y5, y6, y7, some (.ref S), some (.ref R), y10, y11, none] ∧ H' R = some (.lst vs) ∧ AtAll (fun a => a = R ∨ Trk H a) H' (((keep rows).take j).map fun s => renT (keep rows) ((rows[s]?).getD .non)) vs)
        ⟨zR, [], _, _, _, rfl, upd_same, .nil⟩ (fun j σ' H' _ p' => .of (p'.1 _ _ eS')) (fun j x σ' H' ex p' => ?_) (fun σ' H' p' => ?_)⟩
      · obtain ⟨t, et, rfl⟩ := map_get ex
        obtain ⟨s', vs, y6, y10, y11, rfl, eR, aR⟩ := p'
        have mk := List.mem_of_getElem? et
        have lt := (mem_keep.mp mk).1
        have lj := (List.getElem?_eq_some_iff.mp et).1
        have s0 := s03.trans s'
        refine ⟨(by show 0 ≤ sizeLine; decide), fun T nT => ?_⟩
        have zT := same_new nT (.lst [])
        have nTR : T ≠ R := fun h => by rw [h, eR] at nT; cases nT
        have nTH := Same.free s0 nT
        have sT := s0.trans zT
        have arT : AtAll (fun a => a = T) (upd H' T (.lst [])) rows us := (ar.same s0).step (.of zT) (fun a _ tr (e : a = T) => tr (by rw [e]; exact nT))
        obtain ⟨pu, ve, ps, vs2, e, ss2, b1, b2, b3, b4, b5, b6, b7, b8, b9⟩ := row_at arT ok lt
        have ls2 := b8.len
        have eRT := zT _ _ eR
        have eST := zT _ _ (s' _ _ eS')
        have zz : ∀ a, (a = R ∨ Trk H a) → Trk (upd H' T (.lst [])) a := fun a h => by
          rcases h with rfl | h
          · exact .of eRT
          · exact Trk.same sT h
        have aR3 : ∀ G2, SB (fun a => a = T) (upd H' T (.lst [])) G2 → AtAll (fun a => a = R ∨ Trk H a) G2 (((keep rows).take j).map fun s => renT (keep rows) ((rows[s]?).getD .non)) vs := fun G2 s => by
          have a1 : AtAll (fun a => a = T ∨ (a = R ∨ Trk H a)) (upd H' T (.lst [])) (((keep rows).take j).map fun s => renT (keep rows) ((rows[s]?).getD .non)) vs := aR.step (.of zT) (fun a h tr e => e.elim (fun e => tr (by rw [e]; exact nT)) h)
          exact (a1.sb (s.mono fun b e => .inl e)).less fun a h => .inr h
        have eprT := sT _ _ epr
        have sHT := s'.trans zT
        have eTT : (upd H' T (.lst [])) T = some (.lst []) := upd_same
        generalize upd H' T (.lst []) = G0' at *
        refine ⟨_, rfl, _, rfl, pr, us, _, .ref pu, rfl, rfl, .of eprT, atI_nat b1, pu, _, 1, .ref ps, rfl, rfl, .of b2, rfl, ps, rfl, ⟨_, .of b3⟩, ?_⟩
        refine for_tup (xs := vs2) (fun j2 σ2 G2 => Same H3 G2 ∧ SB (fun a => a = T) G0' G2 ∧ ∃ (vs3 : List V) (y11 : Option V), σ2 = [some (.ref p), some (.int z), some (.ref pr), some (.ref F), some (.ref L), y5, some (nV t), y7, some (.ref S), some (.ref R), some (.ref T), y11, none] ∧ G2 T = some (.lst vs3) ∧ AtAll (fun a => a = T ∨ (a = R ∨ Trk H a)) G2 ((ss2.take j2).map (renS (keep rows))) vs3)
          ⟨sHT, .rfl', [], _, rfl, eTT, .nil⟩ (fun j2 σ2 G2 _ h2 => .of (h2.2.1 _ _ (fun h => by rw [h, eTT] at b3; cases b3) b3)) (fun j2 x2 σ2 G2 ex2 h2 => ?_) (fun σ2 G2 h2 => ?_)
        · obtain ⟨sA, sB, vs3, y11', rfl, eT2, aT2⟩ := h2
          have lT := aT2.len
          have l3 : vs3.length < sizeLine := by rw [lT, List.length_map, List.length_take, sizeLine_eq]; omega
          have tk : ∀ {st : Th}, ss2[j2]? = some st → (ss2.take (j2 + 1)).map (renS (keep rows)) = (ss2.take j2).map (renS (keep rows)) ++ [renS (keep rows) st] := fun h => by rw [List.take_add_one, h, List.map_append]; rfl
          have eS2 := sA _ _ eS'
          have nTH3 : H3 T = none := Same.free s' nT
          have fin : ∀ (v : V) (st : Th) (G3 : Hp), Same G2 G3 → ss2[j2]? = some st → At (fun a => a = T ∨ (a = R ∨ Trk H a)) G3 (renS (keep rows) st) v → G3 T = some (.lst vs3) ∧ Same H3 (upd G3 T (.lst (vs3 ++ [v]))) ∧ SB (fun a => a = T) G0' (upd G3 T (.lst (vs3 ++ [v]))) ∧ AtAll (fun a => a = T ∨ (a = R ∨ Trk H a)) (upd G3 T (.lst (vs3 ++ [v]))) ((ss2.take (j2 + 1)).map (renS (keep rows))) (vs3 ++ [v]) := fun v st G3 s3 es a3 => by
            have sD : SB (fun a => a = T ∨ (a = R ∨ Trk H a)) G3 (upd G3 T (.lst (vs3 ++ [v]))) := .self (Z := fun a => a = T ∨ (a = R ∨ Trk H a)) (.inl rfl) _
            refine ⟨s3 _ _ eT2, Same.upd_new (sA.trans s3) nTH3 _, (sB.trans (.of s3)).trans (.self (Z := fun a => a = T) rfl _), ?_⟩
            rw [tk es]
            exact ((aT2.same s3).sb sD).append (.cons (a3.sb sD) .nil)
          have zz2 : ∀ a, (a = T ∨ (a = R ∨ Trk H a)) → Trk G2 a := fun a h => by
            rcases h with rfl | h
            · exact .of eT2
            · have := zz a h
              by_cases e : a = T
              · subst e; exact .of eT2
              · intro h0
                cases hq : G0' a with
                | none => exact this hq
                | some o => rw [sB a o e hq] at h0; cases h0
          refine ⟨_, rfl, .inl ⟨rfl, _, .inl (.inl eT2)⟩, ?_⟩
          rcases st_get (b8.sb sB) b9 ex2 with ⟨f1, rfl⟩ | ⟨q2, m, s2', f1, rfl, f2, _, m0, m1, c0, c1⟩
          · obtain ⟨g1, g2, g3, g4⟩ := fin .non .non G2 (Same.refl G2) f1 rfl
            exact ⟨_, rfl, rfl, _, rfl, iteF (iteF ⟨T, vs3, _, rfl, rfl, g1, l3, g2, g3, _, _, rfl, upd_same, g4⟩)⟩
          · obtain ⟨d, rfl⟩ : ∃ d : Nat, s2' = (d : Int) := ⟨s2'.toNat, by omega⟩
            refine ⟨_, rfl, rfl, _, rfl, iteT ⟨_, rfl, q2, _, 1, .int d, rfl, rfl, .of f2, rfl, _, rfl, S, _, rfl, .inl (.of eS2), rfl, flat_ns _, _, rfl, iteB (fun e1 => ?_) (fun e1 => ?_)⟩⟩
            · have h1 : d ∈ keep rows := (inV_ns' d (keep rows)).mp e1
              have hl := List.idxOf_lt_length_of_mem h1
              have hj : ((keep rows).map nV)[(keep rows).idxOf d]? = some (nV d) := get_map (by rw [List.getElem?_eq_getElem hl, List.getElem_idxOf])
              refine ⟨_, rfl, q2, _, 0, .int m, rfl, rfl, .of f2, rfl, _, rfl, .inl ⟨rfl, _, .inl (.inl eS2)⟩, _, rfl, q2, _, 1, .int d, rfl, rfl, .of f2, rfl, S, _, nV d, (keep rows).idxOf d, nV d, rfl, rfl, .of eS2, rfl, flat_ns _, hj, ?_, fun j z' hj2 ez => ?_, ?_⟩
              · show ((d : Int) == (d : Int)) = true
                exact beq_self_eq_true _
              · obtain ⟨y, ey, rfl⟩ := map_get ez
                have hj3 : j < (keep rows).findIdx (· == d) := hj2
                have := List.not_of_lt_findIdx hj3
                have ey2 := (List.getElem?_eq_some_iff.mp ey).2
                rw [ey2] at this
                have ne : y ≠ d := fun e => by rw [e] at this; simp at this
                show ((y : Int) == (d : Int)) = false
                exact beq_eq_false_iff_ne.mpr (by omega)
              · refine ⟨(by show 2 ≤ sizeLine; decide), fun p9 n9 => ?_⟩
                have y9 := same_new n9 (.tup [V.int m, V.int ((keep rows).idxOf d : Nat)])
                obtain ⟨g1, g2, g3, g4⟩ := fin (.ref p9) _ _ y9 f1 (by
                  rw [renS, Int.toNat_natCast, if_pos h1]
                  exact ⟨p9, _, rfl, fun h => zz2 _ h n9, upd_same, .cons rfl (.cons rfl .nil)⟩)
                exact ⟨T, vs3, _, rfl, rfl, g1, l3, g2, g3, _, _, rfl, upd_same, g4⟩
            · have h1 : d ∉ keep rows := fun h => by rw [(inV_ns' d (keep rows)).mpr h] at e1; cases e1
              obtain ⟨g1, g2, g3, g4⟩ := fin .non _ G2 (Same.refl G2) f1 (by rw [renS, Int.toNat_natCast, if_neg h1]; rfl)
              exact ⟨T, vs3, _, rfl, rfl, g1, l3, g2, g3, _, _, rfl, upd_same, g4⟩
        · obtain ⟨sA, sB, vs3, y11', rfl, eT2, aT2⟩ := h2
          rw [ls2, List.take_length] at aT2
          have neT : ∀ {a : Addr} {o : HO}, G0' a = some o → a ≠ T → G2 a = some o := fun h ne => sB _ _ ne h
          have tn : ∀ {a : Addr} {xs : List V}, G0' a = some (.tup xs) → a ≠ T := fun h e => by rw [e, eTT] at h; cases h
          have eR2 := neT eRT (fun e => nTR e.symm)
          refine ⟨_, rfl, .inl ⟨rfl, _, .inl (.inl eR2)⟩, ?_⟩
          refine ⟨_, rfl, _, rfl, pr, us, _, .ref pu, rfl, rfl, .of (neT eprT (tn eprT)), atI_nat b1, pu, _, 0, ve, rfl, rfl, .of (neT b2 (tn b2)), rfl, _, rfl, T, vs3, rfl, .inl ⟨.of eT2, fun p5 n5 => ?_⟩⟩
          have y5' := same_new n5 (.tup vs3)
          refine ⟨(by show 2 ≤ sizeLine; decide), fun p6 n6 => ?_⟩
          have y6' := same_new n6 (.tup [ve, .ref p5])
          have y56 := y5'.trans y6'
          have s16 := sA.trans y56
          have aR2 := aR3 _ sB
          have zz2 : ∀ a, (a = R ∨ Trk H a) → Trk G2 a := fun a h => by
            have := zz a h
            by_cases e : a = T
            · subst e; exact .of eT2
            · intro h0
              cases hq : G0' a with
              | none => exact this hq
              | some o => rw [sB a o e hq] at h0; cases h0
          refine ⟨R, vs, _, rfl, rfl, y56 _ _ eR2, by rw [aR.len, List.length_map, List.length_take, sizeLine_eq]; omega, ?_⟩
          have sD : SB (fun a => a = R ∨ Trk H a) (upd (upd G2 p5 (.tup vs3)) p6 (.tup [ve, .ref p5])) (upd (upd (upd G2 p5 (.tup vs3)) p6 (.tup [ve, .ref p5])) R (.lst (vs ++ [.ref p6]))) := .self (Z := fun a => a = R ∨ Trk H a) (.inl rfl) _
          refine ⟨Same.upd_new s16 nR _, vs ++ [.ref p6], _, _, _, rfl, upd_same, ?_⟩
          rw [List.take_add_one, et, List.map_append]
          refine ((aR2.same y56).sb sD).append (.cons (At.sb sD ?_) .nil)
          show At _ _ (renT (keep rows) ((rows[t]?).getD .non)) _
          rw [b4]
          refine ⟨p6, _, rfl, fun h => Trk.not n6 (Trk.same y5' (zz2 _ h)), upd_same, .cons ?_ (.cons ⟨p5, vs3, rfl, fun h => Trk.not n5 (zz2 _ h), y6' _ _ upd_same, ?_⟩ .nil)⟩
          · rcases b6 with ⟨rfl, rfl⟩ | ⟨i, rfl, rfl⟩ <;> rfl
          · exact (aT2.less fun a h => .inr h).same y56
      · obtain ⟨s', vs, y6, y10, y11, rfl, eR, aR⟩ := p'
        rw [List.length_map, List.take_length] at aR
        refine ⟨_, rfl, _, rfl, R, vs, rfl, .inl ⟨.of eR, fun p5 n5 => ?_⟩⟩
        have y5' := same_new n5 (.tup vs)
        refine ⟨(by show 2 ≤ sizeLine; decide), fun p6 n6 => ?_⟩
        have y6' := same_new n6 (.tup [.int z, .ref p5])
        have sA := s03.trans s'
        have eT : trimT z rows = .tup [.int z, .tup ((keep rows).map fun s => renT (keep rows) ((rows[s]?).getD .non))] := by unfold trimT trimL; rw [if_neg hk]
        refine q _ _ (sA.trans (y5'.trans y6')) ?_
        rw [eT]
        refine ⟨p6, _, rfl, fun t => Trk.not n6 (Trk.same (sA.trans y5') t), upd_same, .cons rfl (.cons ⟨p5, vs, rfl, fun t => Trk.not n5 (Trk.same sA t), y6' _ _ upd_same, ?_⟩ .nil)⟩
        exact ((aR.less fun a h => .inr h).same y5').same y6'
end
end KL
end
section
set_option maxHeartbeats 1000000
namespace KL
open PySem PySem.Spec PyProof.Rows L2
def spLRaised : Sp := fun vs H Q _ => ∃ (Z : Zone) (v : V) (a b : Int), vs = [v] ∧ At Z H (.tup [.int a, .int b]) v ∧ 0 < b ∧ a.natAbs < 2 ^ 4000 ∧ b.natAbs < 2 ^ 4000 ∧ ∀ k : Nat, RaiseIs a b k → Q (.int (k : Nat)) H
section
variable {P : Program} {w : World} {K : PySem.W.Frag} {mg : Str → Option Value} {base : Heap} {k : Nat} {t1 t2 t3 : Tok}
end
end KL
end
section
set_option maxHeartbeats 2000000
namespace KL
open PySem PySem.Spec PyProof.Rows L2
abbrev sc_law_worthsN : List Str := ["_law_small", "_law_rows", "_law_state", "_law_end", "_law_steps", "_law_row", "_law_step", "_law_column", "_law_there", "_law_head", "_law_at", "_law_factor", "_law_found", "_law_k", "_law_worth"]
abbrev s_law_worths : Stmt := topS 46
theorem sc_law_worths : FnScope ["_law_small", "_law_rows", "_law_state", "_law_end", "_law_steps", "_law_row", "_law_step", "_law_column", "_law_there", "_law_head", "_law_at", "_law_factor", "_law_found", "_law_k", "_law_worth"] ["_law_small"] (defScope s_law_worths) := ⟨rfl, rfl, rfl, by decide +kernel, rfl, by decide +kernel, by decide +kernel⟩
abbrev sgP (a b : Int) : Th := .tup [.int (a / sgcd a b), .int (b / sgcd a b)]
def spOwn : Sp := fun vs H Q _ => ∃ (Z : Zone) (u : V) (z : Int) (rows : List Th), vs = [u] ∧ At Z H (.tup [.int z, .tup rows]) u ∧ MOk z rows ∧
  (∀ (cur : Nat → Nat → Int) v H', Own rows.length rows.length (eqr rows) cur → (∀ i, i < rows.length → 0 ≤ cur i rows.length * cur i i) → Same H H' → At (Trk H) H' (.tup ((List.range rows.length).map fun i => sgP (cur i rows.length) (cur i i))) v → Q v H') ∧ (¬ PosR rows → ∀ H', Same H H' → Q .non H')
theorem gcN_great {f : Nat → Int} {d : Int} : ∀ {n : Nat}, (∀ j, j < n → d ∣ f j) → d ∣ ((gcN f n : Nat) : Int)
  | 0, _ => Int.dvd_zero _
  | n + 1, h => by
    have a := gcN_great (n := n) fun j hj => h j (by omega)
    have b := h n (by omega)
    exact Int.natAbs_dvd_natAbs.mp (by rw [Int.natAbs_natCast]; exact Nat.dvd_gcd (by have := Int.natAbs_dvd_natAbs.mpr a; rwa [Int.natAbs_natCast] at this) (Int.natAbs_dvd_natAbs.mpr b))
theorem prim_light {f : Nat → Int} {n : Nat} (h : gcN f (n + 1) ≠ 0) : Prim n fun j => f j / ((gcN f (n + 1) : Nat) : Int) := by
  refine .inr fun d hd => ?_
  have g0 : ((gcN f (n + 1) : Nat) : Int) ≠ 0 := by omega
  have : ((gcN f (n + 1) : Nat) : Int) * d ∣ ((gcN f (n + 1) : Nat) : Int) * 1 := by
    rw [Int.mul_one]
    refine gcN_great fun j hj => ?_
    obtain ⟨c, hc⟩ := gcN_dvd (f := f) hj
    obtain ⟨x, hx⟩ := hd j (by omega)
    dsimp only at hx
    rw [hc, Int.mul_ediv_cancel_left _ g0] at hx
    exact ⟨x, by rw [hc, hx, Int.mul_assoc]⟩
  exact Int.dvd_of_mul_dvd_mul_left g0 this
theorem zero_light {f : Nat → Int} {n : Nat} (h : gcN f (n + 1) = 0) {j : Nat} (hj : j ≤ n) : f j = 0 := by
  have := gcN_dvd (f := f) (show j < n + 1 by omega)
  rw [h] at this
  exact Int.zero_dvd.mp this
/-- the rows told in a list -/
structure RowsA (n m : Nat) (R : Addr) (G : Hp) (cur : Nat → Nat → Int) : Prop where
  ex : ∃ ads : Nat → Addr, G R = some (.lst (refs ads m)) ∧ ∀ t, t < m → ads t ≠ R ∧ G (ads t) = some (.lst (rowV (cur t) (n + 1)))
/-- .. each a number times less, and lightened -/
def Fit (n : Nat) (r cur : Nat → Nat → Int) (t : Nat) : Prop := (∃ k : Int, k ≠ 0 ∧ ∀ j, j ≤ n → r t j = k * cur t j) ∧ Prim n (cur t)
theorem refs_swap {ads : Nat → Addr} {n c a : Nat} (hc : c < n) (ha : a < n) : ((refs ads n).set c (.ref (ads a))).set a (.ref (ads c)) = refs (fun i => ads (exch c a i)) n := by
  refine List.ext_getElem? fun i => ?_
  by_cases hi : i < n
  · rw [refs_get hi]
    by_cases e1 : i = a
    · subst e1
      rw [List.getElem?_set_self (by rw [List.length_set, refs_len]; exact hi)]
      unfold exch
      by_cases e2 : i = c
      · subst e2; rw [if_pos rfl]
      · rw [if_neg e2, if_pos rfl]
    · rw [List.getElem?_set_ne (fun h => e1 h.symm)]
      by_cases e2 : i = c
      · subst e2
        rw [List.getElem?_set_self (by rw [refs_len]; exact hi)]
        unfold exch
        rw [if_pos rfl]
      · rw [List.getElem?_set_ne (fun h => e2 h.symm), refs_get hi]
        unfold exch
        rw [if_neg e2, if_neg e1]
  · rw [List.getElem?_eq_none (by rw [List.length_set, List.length_set, refs_len]; omega), List.getElem?_eq_none (by rw [refs_len]; omega)]
theorem refs_set {ads : Nat → Addr} {n t : Nat} {N : Addr} (ht : t < n) : (refs ads n).set t (.ref N) = refs (fun i => if i = t then N else ads i) n := by
  refine List.ext_getElem? fun i => ?_
  by_cases hi : i < n
  · rw [refs_get hi]
    by_cases e1 : i = t
    · subst e1
      rw [List.getElem?_set_self (by rw [refs_len]; exact hi), if_pos rfl]
    · rw [List.getElem?_set_ne (fun h => e1 h.symm), refs_get hi, if_neg e1]
  · rw [List.getElem?_eq_none (by rw [List.length_set, refs_len]; omega), List.getElem?_eq_none (by rw [refs_len]; omega)]
theorem sgn_lt {a b : Int} (hb : b ≠ 0) : a / sgcd a b < 0 ↔ a * b < 0 := by
  obtain ⟨g, a', b', eg, g0, ea, eb, cp⟩ := gcd_parts (a := a) (b := b) hb
  unfold sgcd
  rw [← eg]
  have pos : 0 < g * g := Int.mul_pos g0 g0
  have e2 : a * b = (g * g) * (a' * b') := by rw [ea, eb]; grind
  have sb : (b < 0 ↔ b' < 0) := by
    rw [eb]
    constructor
    · intro h
      refine Classical.byContradiction fun c => ?_
      have : 0 ≤ g * b' := Int.mul_nonneg (by omega) (by omega)
      omega
    · intro h; exact Int.mul_neg_of_pos_of_neg g0 h
  have b0 : b' ≠ 0 := fun h => hb (by rw [eb, h, Int.mul_zero])
  have e3 : a * b < 0 ↔ a' * b' < 0 := by
    rw [e2]
    constructor
    · intro h
      refine Classical.byContradiction fun c => ?_
      have : 0 ≤ (g * g) * (a' * b') := Int.mul_nonneg (by omega) (by omega)
      omega
    · intro h; exact Int.mul_neg_of_pos_of_neg pos h
  rw [e3]
  split
  · next h =>
    have h' := sb.mp h
    have : a / -g = -a' := by rw [Int.ediv_neg, ea, Int.mul_ediv_cancel_left _ (by omega)]
    rw [this]
    constructor
    · intro h2; exact Int.mul_neg_of_pos_of_neg (by omega) h'
    · intro h2
      refine Classical.byContradiction fun c => ?_
      have : 0 ≤ a' * b' := Int.mul_nonneg_of_nonpos_of_nonpos (by omega) (by omega)
      omega
  · next h =>
    have h' : 0 < b' := by
      have := fun x => h (sb.mpr x)
      omega
    have : a / g = a' := by conv => lhs; rw [ea]
                            exact Int.mul_ediv_cancel_left _ (by omega)
    rw [this]
    constructor
    · intro h2; exact Int.mul_neg_of_neg_of_pos h2 h'
    · intro h2
      refine Classical.byContradiction fun c => ?_
      have : 0 ≤ a' * b' := Int.mul_nonneg (by omega) (by omega)
      omega
theorem neV (a : Int) : (!decide (V.int a = V.int 0)) = decide (a ≠ 0) := by
  by_cases h : a = 0
  · subst h; rfl
  · rw [decide_eq_true h, decide_eq_false (fun e => h (by injection e))]; rfl
theorem AtAll.nats {Z : Zone} {H : Hp} : ∀ ns : List Nat, AtAll Z H (ns.map fun i => Th.int (i : Nat)) (ns.map nV)
  | [] => .nil
  | n :: ns => .cons rfl (AtAll.nats ns)
theorem lay_lst {xs : List Th} (h : ∀ x ∈ xs, (py x).canLay0 = true) : (py (.lst xs)).canLay0 = true := by
  rw [py]
  simp only [PyData.canLay0]
  exact layL h
theorem eqv_lnil (ls : List Th) : PyData.eqv (py (.lst ls)) (py (.lst [])) = ls.isEmpty := by
  cases ls with
  | nil => rw [py, pyL]; simp [PyData.eqv, PyData.eqvAll]
  | cons a b => rw [py, py, pyL, pyL]; simp [PyData.eqv, PyData.eqvAll]
theorem dp_nats (ns : List Nat) : dp (.lst (ns.map fun i => Th.int (i : Nat))) ≤ 64 := by
  have : ∀ ns : List Nat, dpL (ns.map fun i => Th.int (i : Nat)) ≤ 1 := fun ns => by
    induction ns with
    | nil => decide
    | cons a r ih =>
      show max (dp (.int _)) (dpL _) ≤ 1
      exact Nat.max_le.mpr ⟨by show 0 ≤ 1; decide, ih⟩
  show dpL _ + 1 ≤ 64
  have := this ns
  omega
section
variable {P : Program} {w : World} {K : PySem.W.Frag} {mg : Str → Option Value} {base : Heap} {k : Nat} {t1 t2 t3 : Tok}
theorem ok_law_worths (Z : Zs mg) (c_law_power : Cal P w K mg base CX0 k "_law_power" ["_law_many"] spPower) (c_law_lighter : Cal P w K mg base CX0 k "_law_lighter" ["_law_row"] spLighter) (c_law_reduced : Cal P w K mg base CX0 k "_law_reduced" ["_law_top", "_law_bottom"] spReduced) (d : Def K mg "_law_worths" s_law_worths ["_law_small"]) : Cal P w K mg base CX0 (k + 1) "_law_worths" ["_law_small"] spOwn := by
  refine d.ok sc_law_worths (fun vs H Q E h => ?_) (fun f cdv A outer s H vs Q E hr h => ?_)
  · obtain ⟨_, _, _, _, rfl, _⟩ := h; rfl
  obtain ⟨Zn, u, z, rows, rfl, hu, ok, q1, q0⟩ := h
  refine ⟨_, (pss_cons (ps_set (i := 1) sc_law_worths.nd rfl (Or.inr rfl) (pe_lst pa_nil))
      (pss_cons (ps_for PassesOwn.never rfl (pi_range1 (by rfl) Z.range (pa_cons (pe_callB (id := "len") call_len_seq (by rfl) Z.len (by decide +kernel) (pa_cons (pe_ix ix_tup (pv 0) pe_int (fun _ _ => rfl)) pa_nil)) pa_nil)) (pg_name (i := 2) sc_law_worths.nd rfl (Or.inl rfl)) (pss_cons (ps_asg (pe_ix ix_tup (pe_ix ix_tup (pv 0) pe_int (fun _ _ => rfl)) (pv 2) (fun _ _ => rfl)) (pg_tup (by rfl) (pgs_cons (pg_name (i := 3) sc_law_worths.nd rfl (Or.inl rfl)) (pgs_cons (pg_name (i := 4) sc_law_worths.nd rfl (Or.inl rfl)) pgs_nil))))
      (pss_cons (ps_set (i := 5) sc_law_worths.nd rfl (Or.inl rfl) (pe_op op_cat (pe_op op_rep (pe_lst (pa_cons pe_int pa_nil)) (pe_callB (id := "len") call_len_seq (by rfl) Z.len (by decide +kernel) (pa_cons (pe_ix ix_tup (pv 0) pe_int (fun _ _ => rfl)) pa_nil))) (pe_lst (pa_cons (pe_ifExp (pt_cmpR op_isN (pv 3) pe_non (nomark _)) pe_int (pe_cal c_law_power hr (by rfl) (pa_cons (pe_op op_sub pe_int (pv 3)) pa_nil))) pa_nil))))
      (pss_cons (ps_asg (pe_op op_pow pe_int pe_int) (pg_sub (pv 5) (pv 2) set_list))
      (pss_cons (ps_for PassesOwn.never rfl (pi_tup (pv 4)) (pg_name (i := 6) sc_law_worths.nd rfl (Or.inl rfl)) (pss_one (ps_if (pt_cmpR op_notN (pv 6) pe_non (nomark _)) (pss_one (ps_asg (pe_op op_sub (pe_ix ix_list (pv 5) (pe_ix ix_tup (pv 6) pe_int (fun _ _ => rfl)) (fun _ _ => rfl)) (pe_cal c_law_power hr (by rfl) (pa_cons (pe_op op_sub pe_int (pe_ix ix_tup (pv 6) pe_int (fun _ _ => rfl))) pa_nil))) (pg_sub (pv 5) (pe_ix ix_tup (pv 6) pe_int (fun _ _ => rfl)) set_list))) pss_nil)))
      (pss_one (ps_expr (pe_bm PySem.F.plainAttrs_list PySem.F.slot_list_append PySem.F.type_list_append mt_append (pv 1) (pa_cons (pe_cal c_law_lighter hr (by rfl) (pa_cons (pv 5) pa_nil)) pa_nil)))))))))
      (pss_cons (ps_for PassesOwn.never rfl (pi_range1 (by rfl) Z.range (pa_cons (pe_callB (id := "len") call_len_seq (by rfl) Z.len (by decide +kernel) (pa_cons (pv 1) pa_nil)) pa_nil)) (pg_name (i := 7) sc_law_worths.nd rfl (Or.inr rfl)) (pss_cons (ps_setLc (i := 8) (own := [("_law_at", 10)]) (g := gName 10) (tt := _) rfl sc_law_worths.nd rfl rfl (sw_true rfl rfl rfl (by decide +kernel)) (pi_range2 (by rfl) Z.range (pa_cons (pv 7) (pa_cons (pe_callB (id := "len") call_len_seq (by rfl) Z.len (by decide +kernel) (pa_cons (pv 1) pa_nil)) pa_nil))) (blkOk_by (N := ["_law_small", "_law_rows", "_law_state", "_law_end", "_law_steps", "_law_row", "_law_step", "_law_column", "_law_there", "_law_head", "_law_at", "_law_factor", "_law_found", "_law_k", "_law_worth"]) (sc := defScope s_law_worths) (by decide +kernel)) (fun _ _ _ _ _ => (pg_name (i := 10) sc_law_worths.nd rfl (Or.inl rfl))) (fun _ _ _ _ _ => (pts_one (pt_cmpR op_ne (pe_ix (r := rIxL K) ix_list (pe_ix (r := rIxL K) ix_list (pv 1) (pv 10) (fun _ _ => rfl)) (pv 7) (fun _ _ => rfl)) pe_int (nomark _)))) (fun _ _ _ _ _ => (pv 10)))
      (pss_cons (ps_if (pt_cmpR (op_eqD hr.units) (pv 8) (pe_lst pa_nil) (nomark _)) (pss_one (ps_ret pe_non)) pss_nil)
      (pss_cons (ps_asg (pe_tup (pa_cons (pe_ix ix_list (pv 1) (pe_ix ix_list (pv 8) pe_int (fun _ _ => rfl)) (fun _ _ => rfl)) (pa_cons (pe_ix ix_list (pv 1) (pv 7) (fun _ _ => rfl)) pa_nil))) (pg_tup (by rfl) (pgs_cons (pg_sub (pv 1) (pv 7) set_list) (pgs_cons (pg_sub (pv 1) (pe_ix ix_list (pv 8) pe_int (fun _ _ => rfl)) set_list) pgs_nil))))
      (pss_cons (ps_set (i := 9) sc_law_worths.nd rfl (Or.inr rfl) (pe_ix ix_list (pv 1) (pv 7) (fun _ _ => rfl)))
      (pss_one (ps_for PassesOwn.never rfl (pi_range1 (by rfl) Z.range (pa_cons (pe_callB (id := "len") call_len_seq (by rfl) Z.len (by decide +kernel) (pa_cons (pv 1) pa_nil)) pa_nil)) (pg_name (i := 10) sc_law_worths.nd rfl (Or.inr rfl)) (pss_cons (ps_set (i := 11) sc_law_worths.nd rfl (Or.inr rfl) (pe_ix ix_list (pe_ix ix_list (pv 1) (pv 10) (fun _ _ => rfl)) (pv 7) (fun _ _ => rfl)))
      (pss_one (ps_if (PW.pt (pw_and (pt_cmpR op_ne (pv 10) (pv 7) (nomark _)) (pw_and1 (pt_cmpR op_ne (pv 11) pe_int (nomark _))))) (pss_one (ps_asg (pe_cal c_law_lighter hr (by rfl) (pa_cons (pe_lc (own := [("_law_k", 13)]) (g := gName 13) (tt := tYes) rfl sc_law_worths.nd (pi_range1 (by rfl) Z.range (pa_cons (pe_callB (id := "len") call_len_seq (by rfl) Z.len (by decide +kernel) (pa_cons (pv 9) pa_nil)) pa_nil)) (blkOk_by (N := ["_law_small", "_law_rows", "_law_state", "_law_end", "_law_steps", "_law_row", "_law_step", "_law_column", "_law_there", "_law_head", "_law_at", "_law_factor", "_law_found", "_law_k", "_law_worth"]) (sc := defScope s_law_worths) (by decide +kernel)) (fun _ _ _ _ _ => (pg_name (i := 13) sc_law_worths.nd rfl (Or.inl rfl))) (fun _ _ _ _ _ => pts_nil) (fun _ _ _ _ _ => (pe_op op_sub (pe_op op_mulW (pe_ix (r := rIxL K) ix_list (pe_ix (r := rIxL K) ix_list (pv 1) (pv 10) (fun _ _ => rfl)) (pv 13) (fun _ _ => rfl)) (pe_ix (r := rIxL K) ix_list (pv 9) (pv 7) (fun _ _ => rfl))) (pe_op op_mulW (pv 11) (pe_ix (r := rIxL K) ix_list (pv 9) (pv 13) (fun _ _ => rfl)))))) pa_nil)) (pg_sub (pv 1) (pv 10) set_list))) pss_nil))))))))))
      (pss_cons (ps_set (i := 12) sc_law_worths.nd rfl (Or.inl rfl) (pe_callTy (T := "tuple") call_tuple_of (by rfl) Z.tuple (by decide +kernel) (pa_cons (pe_lc (own := [("_law_at", 10)]) (g := gName 10) (tt := tYes) rfl sc_law_worths.nd (pi_range1 (by rfl) Z.range (pa_cons (pe_callB (id := "len") call_len_seq (by rfl) Z.len (by decide +kernel) (pa_cons (pv 1) pa_nil)) pa_nil)) (blkOk_by (N := ["_law_small", "_law_rows", "_law_state", "_law_end", "_law_steps", "_law_row", "_law_step", "_law_column", "_law_there", "_law_head", "_law_at", "_law_factor", "_law_found", "_law_k", "_law_worth"]) (sc := defScope s_law_worths) (by decide +kernel)) (fun _ _ _ _ _ => (pg_name (i := 10) sc_law_worths.nd rfl (Or.inl rfl))) (fun _ _ _ _ _ => pts_nil) (fun _ _ _ _ _ => (pe_cal c_law_reduced hr (by rfl) (pa_cons (pe_ix (r := rIxL K) ix_list (pe_ix (r := rIxL K) ix_list (pv 1) (pv 10) (fun _ _ => rfl)) (pe_un un_neg pe_int) (fun _ _ => rfl)) (pa_cons (pe_ix (r := rIxL K) ix_list (pe_ix (r := rIxL K) ix_list (pv 1) (pv 10) (fun _ _ => rfl)) (pv 10) (fun _ _ => rfl)) pa_nil))))) pa_nil)))
      (pss_one (ps_ret (pe_ifExp (pt_val (pe_callB (id := "any") (cr_any rfl) (by rfl) Z.any (by decide +kernel) (pa_cons (pe_lc (own := [("_law_worth", 14)]) (g := gName 14) (tt := tYes) rfl sc_law_worths.nd (pi_tup (pv 12)) (blkOk_by (N := ["_law_small", "_law_rows", "_law_state", "_law_end", "_law_steps", "_law_row", "_law_step", "_law_column", "_law_there", "_law_head", "_law_at", "_law_factor", "_law_found", "_law_k", "_law_worth"]) (sc := defScope s_law_worths) (by decide +kernel)) (fun _ _ _ _ _ => (pg_name (i := 14) sc_law_worths.nd rfl (Or.inl rfl))) (fun _ _ _ _ _ => pts_nil) (fun _ _ _ _ _ => (pe_cmpR op_lt (pe_ix (r := rIxT K) ix_tup (pv 14) pe_int (fun _ _ => rfl)) pe_int (nomark _)))) pa_nil))) pe_non (pv 12)))))))), ?_⟩
  have n1 := ok.n1
  have n30 := ok.n30
  have z8 := ok.z8
  have eB64 := eqr_abs ok
  obtain ⟨p, pr, us, rfl, ep, epr, ar, _⟩ := At.mach hu
  have lu := ar.len
  -- rows = []
  refine ⟨(by show 0 ≤ sizeLine; decide), fun R nR => ?_⟩
  have yR := same_new nR (.lst [])
  refine ⟨_, rfl, p, _, 1, .ref pr, rfl, rfl, .of (yR _ _ ep), rfl, pr, us, rfl, .inr (.of (yR _ _ epr)), _, rfl, by omega, by omega, ?_⟩
  rw [lu, Int.toNat_natCast]
  refine for_range (lo := 0) (n := rows.length) (fun i σ' G => Same H G ∧ ∃ (cur : Nat → Nat → Int) (y2 y3 y4 y5 y6 : Option V), σ' = [some (.ref p), some (.ref R), y2, y3, y4, y5, y6, none, none, none, none, none, none, none, none] ∧ RowsA rows.length i R G cur ∧ ∀ t, t < i → Fit rows.length (eqr rows) cur t)
    ⟨yR, eqr rows, none, none, none, none, none, rfl, ⟨fun _ => R, upd_same, fun t ht => by omega⟩, fun t ht => by omega⟩ (fun i σ' G hi hh => ?_) (fun σ' G hh => ?_)
  · obtain ⟨sG, cur, y2, y3, y4, y5, y6, rfl, ⟨ads, eR, eA⟩, fit⟩ := hh
    obtain ⟨pu, ve, ps, vs, e, ss, b1, b2, b3, b4, b5, b6, b7, b8, b9⟩ := row_at (ar.same sG) ok hi
    have h1 : e = .non ∨ ∃ i, e = .int i ∧ 1 ≤ i ∧ i ≤ 60 := by
      obtain ⟨e', ss', er, c1, _⟩ := ok.row hi
      rw [b4] at er
      injection er with er; injection er with er; injection er with er _
      rw [er]; exact c1
    have epG := sG _ _ ep
    have eprG := sG _ _ epr
    have lvs := b8.len
    refine ⟨_, rfl, p, _, 1, .ref pr, rfl, rfl, .of epG, rfl, _, rfl, pr, us, _, .ref pu, rfl, rfl, .of eprG, (by rw [Int.zero_add]; exact atI_nat b1), pu, _, rfl, .of b2, rfl, _, _, rfl, _, _, rfl, rfl, ?_⟩
    refine ⟨(by show 1 ≤ sizeLine; decide), fun O nO => ?_⟩
    have yO := same_new nO (.lst [V.int 0])
    refine ⟨_, rfl, p, _, 1, .ref pr, rfl, rfl, .of (yO _ _ epG), rfl, pr, us, rfl, .inr (.of (yO _ _ eprG)), O, _, _, rfl, rfl, upd_same, by omega, by omega, by rw [sizeLine_eq]; show 1 * _ ≤ _; omega, fun F nF => ?_⟩
    have yF := same_new nF (.lst ((List.replicate ((us.length : Nat) : Int).toNat [V.int 0]).flatten))
    have eF : (upd (upd G O (.lst [V.int 0])) F (.lst ((List.replicate ((us.length : Nat) : Int).toNat [V.int 0]).flatten))) F = some (.lst (rowV (fun _ => 0) rows.length)) := by
      rw [upd_same]
      congr 2
      have := repV_single ((us.length : Nat) : Int) (V.int 0)
      unfold repV at this
      rw [this]
      refine rowV_ext (by rw [List.length_replicate]; omega) fun j hj => ?_
      rw [List.getElem?_replicate, if_pos (by omega)]
    have sF : Same G (upd (upd G O (.lst [V.int 0])) F (.lst ((List.replicate ((us.length : Nat) : Int).toNat [V.int 0]).flatten))) := yO.trans yF
    generalize upd (upd G O (.lst [V.int 0])) F (.lst ((List.replicate ((us.length : Nat) : Int).toNat [V.int 0]).flatten)) = G1 at *
    have hEnd : shE (endOf ((rows[i]?).getD .non)) = shE e := by rw [b4]; rfl
    have hSs : stepsOf ((rows[i]?).getD .non) = ss := by rw [b4]; rfl
    refine ⟨_, rfl, rfl, _, rfl, iteB (fun ec => ?ga) (fun ec => ?gb)⟩
    case' ga =>
      have en : ve = .non := of_decide_eq_true ec
      have eE : (0 : Int) = shE e := by
        rcases b6 with ⟨rfl, _⟩ | ⟨i0, rfl, rfl⟩
        · rfl
        · cases en
      refine ⟨(by show 1 ≤ sizeLine; decide), fun B2 nB2 => ?_⟩
      rw [show (HO.lst [V.int 0]) = HO.lst [V.int (shE e)] by rw [← eE]]
      clear eE
      generalize shE e = eN at *
    case' gb =>
      obtain ⟨i0, rfl, rfl⟩ : ∃ i, e = .int i ∧ ve = .int i := by
        rcases b6 with ⟨rfl, rfl⟩ | h
        · exact absurd ec (by decide)
        · exact h
      have hi0 : 1 ≤ i0 ∧ i0 ≤ 60 := by
        rcases h1 with h | ⟨i, h, h2, h3⟩
        · cases h
        · cases h; exact ⟨h2, h3⟩
      refine ⟨_, rfl, _, _, rfl, rfl, (60 - i0).toNat, (by rw [Int.toNat_of_nonneg (by omega)]; rfl), by omega, (by show 1 ≤ sizeLine; decide), fun B2 nB2 => ?_⟩
      rw [show (2 : Int) ^ (60 - i0).toNat = shE (.int i0) from rfl]
      generalize shE (.int i0) = eN at *
    all_goals
      have y2 := same_new nB2 (.lst [V.int eN])
      refine ⟨F, B2, _, _, rfl, rfl, y2 _ _ eF, upd_same, by rw [rowV_len, sizeLine_eq]; show rows.length + 1 ≤ _; omega, fun B nB => ?_⟩
      have yB := same_new nB (.lst (rowV (fun _ => 0) rows.length ++ [V.int eN]))
      have eB : (upd (upd G1 B2 (.lst [V.int eN])) B (.lst (rowV (fun _ => 0) rows.length ++ [V.int eN]))) B = some (.lst (rowV (fun j => if j = rows.length then eN else 0) (rows.length + 1))) := by
        rw [upd_same]
        congr 2
        refine rowV_ext (by rw [List.length_append, rowV_len]; rfl) fun j hj => ?_
        by_cases e1 : j = rows.length
        · subst e1
          rw [List.getElem?_append_right (by rw [rowV_len]; exact Nat.le_refl _), rowV_len, Nat.sub_self, if_pos rfl]; rfl
        · rw [List.getElem?_append_left (by rw [rowV_len]; omega), rowV_get (by omega), if_neg e1]
      have s2 : Same G (upd (upd G1 B2 (.lst [V.int eN])) B (.lst (rowV (fun _ => 0) rows.length ++ [V.int eN]))) := sF.trans (y2.trans yB)
      have nBG : G B = none := Same.free (sF.trans y2) nB
      generalize upd (upd G1 B2 (.lst [V.int eN])) B (.lst (rowV (fun _ => 0) rows.length ++ [V.int eN])) = G2 at *
      refine ⟨_, _, rfl, rfl, ⟨by decide, by decide, by decide⟩, _, rfl, _, rfl, B, _, _, i, rfl, rfl, eB, (by rw [Int.zero_add]; exact ixT (by rw [rowV_len]; omega)), ?_⟩
      have eB3 : (upd G2 B (.lst ((rowV (fun j => if j = rows.length then eN else 0) (rows.length + 1)).set i (.int (2 ^ (60 : Int).toNat))))) B = some (.lst (rowV (fun j => if j = rows.length then eN else (if j = i then 2 ^ 60 else 0) - shS [] j) (rows.length + 1))) := by
        rw [upd_same]
        congr 2
        refine rowV_ext (by rw [List.length_set, rowV_len]) fun j hj => ?_
        by_cases e1 : j = i
        · subst e1
          rw [List.getElem?_set_self (by rw [rowV_len]; omega), if_neg (by omega), if_pos rfl]; rfl
        · rw [List.getElem?_set_ne (fun h => e1 h.symm), rowV_get hj, if_neg e1]; rfl
      have s3 := Same.upd_new s2 nBG (.lst ((rowV (fun j => if j = rows.length then eN else 0) (rows.length + 1)).set i (.int (2 ^ (60 : Int).toNat))))
      generalize upd G2 B (.lst ((rowV (fun j => if j = rows.length then eN else 0) (rows.length + 1)).set i (.int (2 ^ (60 : Int).toNat)))) = G3 at *
      refine ⟨_, rfl, ps, rfl, ⟨_, .of (s3 _ _ b3)⟩, ?_⟩
      refine for_tup (xs := vs) (fun q' σ2 G4 => Same G G4 ∧ ∃ y3' y6 : Option V, σ2 = [some (.ref p), some (.ref R), some (.int (0 + (i : Nat))), y3', some (.ref ps), some (.ref B), y6, none, none, none, none, none, none, none, none] ∧ G4 B = some (.lst (rowV (fun j => if j = rows.length then eN else (if j = i then 2 ^ 60 else 0) - shS (ss.take q') j) (rows.length + 1)))) ⟨s3, _, _, rfl, eB3⟩ (fun q' σ2 G4 _ h2 => .of (h2.1 _ _ b3)) (fun q' x σ2 G4 ex h2 => ?_) (fun σ2 G4 h2 => ?_)
      · obtain ⟨s4, y3', y6, rfl, eB4⟩ := h2
        have tk : ∀ {st : Th}, ss[q']? = some st → ss.take (q' + 1) = ss.take q' ++ [st] := fun h => by rw [List.take_add_one, h]; rfl
        rcases st_get (b8.same s4) b9 ex with ⟨f1, rfl⟩ | ⟨q2, m, s2', f1, rfl, f2, _, m0, m1, s0, s1⟩
        · refine ⟨_, rfl, rfl, _, rfl, iteF ⟨s4, _, _, rfl, ?_⟩⟩
          rw [eB4, tk f1]
          congr 2
          exact rowV_congr fun j _ => by rw [shS_snoc, show shT j .non = 0 from rfl, Int.add_zero]
        · obtain ⟨j0, rfl⟩ : ∃ j0 : Nat, s2' = (j0 : Int) := ⟨s2'.toNat, by omega⟩
          refine ⟨_, rfl, rfl, _, rfl, iteT ?_⟩
          refine ⟨_, rfl, _, rfl, q2, _, 1, .int (j0 : Nat), rfl, rfl, .of f2, rfl, B, _, _, _, rfl, rfl, .inl (.of eB4), atI_nat (rowV_get (show j0 < rows.length + 1 by omega)), _, rfl, q2, _, 0, .int m, rfl, rfl, .of f2, rfl, _, _, rfl, rfl, (60 - m).toNat, (by rw [Int.toNat_of_nonneg (by omega)]; rfl), by omega, ?_⟩
          refine ⟨_, _, rfl, rfl, _, rfl, _, rfl, q2, _, 1, .int (j0 : Nat), rfl, rfl, .of f2, rfl, B, _, _, j0, rfl, rfl, eB4, ixT (by rw [rowV_len]; omega), Same.upd_new s4 nBG _, _, _, rfl, ?_⟩
          rw [upd_same, tk f1]
          congr 2
          refine rowV_ext (by rw [List.length_set, rowV_len]) fun j hj => ?_
          have hT : shT j (.tup [.int m, .int (j0 : Nat)]) = if (j0 : Int) = (j : Int) then (2 : Int) ^ (60 - m).toNat else 0 := rfl
          by_cases e1 : j = j0
          · subst e1
            have nj : ¬ j = rows.length := by omega
            rw [List.getElem?_set_self (by rw [rowV_len]; omega)]
            show some (V.int ((if j = rows.length then eN else (if j = i then 2 ^ 60 else 0) - shS (ss.take q') j) - 2 ^ (60 - m).toNat)) = _
            rw [if_neg nj, if_neg nj, shS_snoc, hT, if_pos rfl]
            congr 2
            omega
          · rw [List.getElem?_set_ne (fun h => e1 h.symm), rowV_get hj, shS_snoc, hT, if_neg (show ¬ (j0 : Int) = (j : Int) by omega), Int.add_zero]
      · obtain ⟨s4, y3', y6, rfl, eB4⟩ := h2
        rw [lvs, List.take_length] at eB4
        have eqf : ∀ j, j ≤ rows.length → eqr rows i j = (if j = rows.length then eN else (if j = i then 2 ^ 60 else 0) - shS ss j) := fun j hj => by
          unfold eqr
          rw [hEnd, hSs]
          by_cases e1 : j = rows.length
          · rw [if_neg (by omega), if_pos e1, if_pos e1]
          · rw [if_pos (by omega), if_neg e1]
        have eB5 : G4 B = some (.lst (rowV (eqr rows i) (rows.length + 1))) := by
          rw [eB4]; congr 2
          exact rowV_congr fun j hj => (eqf j (by omega)).symm
        have nBR : B ≠ R := fun h => by rw [h, eR] at nBG; cases nBG
        have eR4 := s4 _ _ eR
        refine ⟨_, rfl, .inl ⟨rfl, _, .inl (.inl eR4)⟩, ?_⟩
        have sm : ∀ j, j < rows.length + 1 → (eqr rows i j).natAbs < 2 ^ 8900 := fun j _ => Nat.lt_of_le_of_lt (eB64 i j) (Nat.pow_lt_pow_right (by decide) (by decide))
        have fin : ∀ (N : Addr) (G5 : Hp) (g : Nat → Int), Same G4 G5 → N ≠ R → G5 N = some (.lst (rowV g (rows.length + 1))) → (∃ k : Int, k ≠ 0 ∧ ∀ j, j ≤ rows.length → eqr rows i j = k * g j) → Prim rows.length g →
            G5 R = some (.lst (refs ads i)) ∧ (refs ads i).length < sizeLine ∧ Same H (upd G5 R (.lst (refs ads i ++ [.ref N]))) ∧ RowsA rows.length (i + 1) R (upd G5 R (.lst (refs ads i ++ [.ref N]))) (fun t => if t = i then g else cur t) ∧ ∀ t, t < i + 1 → Fit rows.length (eqr rows) (fun t => if t = i then g else cur t) t := fun N G5 g s5 nN eN5 hk hp5 => by
          refine ⟨s5 _ _ eR4, by rw [refs_len, sizeLine_eq]; omega, Same.upd_new (sG.trans (s4.trans s5)) nR _, ⟨fun t => if t = i then N else ads t, by rw [upd_same, refs_succ], fun t ht => ?_⟩, fun t ht => ?_⟩
          · dsimp only
            by_cases e1 : t = i
            · rw [if_pos e1, if_pos e1]
              exact ⟨nN, by rw [upd_ne nN]; exact eN5⟩
            · rw [if_neg e1, if_neg e1]
              obtain ⟨a1, a2⟩ := eA t (by omega)
              exact ⟨a1, by rw [upd_ne a1]; exact (s4.trans s5) _ _ a2⟩
          · unfold Fit
            dsimp only
            by_cases e1 : t = i
            · subst e1
              rw [if_pos rfl]
              exact ⟨hk, hp5⟩
            · rw [if_neg e1]
              exact fit t (by omega)
        refine ⟨_, rfl, B, eqr rows i, rows.length + 1, rfl, eB5, by omega, sm, fun g0 G5 s5 => ?_, fun g0 N G5 s5 nN eN5 => ?_⟩
        · obtain ⟨f1, f2, f3, f4, f5⟩ := fin B G5 (eqr rows i) s5 nBR (s5 _ _ eB5) ⟨1, by decide, fun j _ => by rw [Int.one_mul]⟩ (.inl fun j hj => zero_light g0 hj)
          exact ⟨R, _, _, rfl, rfl, f1, f2, f3, _, _, _, _, _, _, rfl, f4, f5⟩
        · obtain ⟨f1, f2, f3, f4, f5⟩ := fin N G5 _ s5 (fun h => by rw [h, eR4] at nN; cases nN) eN5 ⟨((gcN (eqr rows i) (rows.length + 1) : Nat) : Int), by omega, fun j hj => (Int.mul_ediv_cancel' (gcN_dvd (by omega))).symm⟩ (prim_light g0)
          exact ⟨R, _, _, rfl, rfl, f1, f2, f3, _, _, _, _, _, _, rfl, f4, f5⟩
  · obtain ⟨sG, cur0, y2, y3, y4, y5, y6, rfl, ra0, fit⟩ := hh
    obtain ⟨kf, hkf⟩ : ∃ kf : Nat → Int, ∀ t, t < rows.length → kf t ≠ 0 ∧ ∀ j, j ≤ rows.length → eqr rows t j = kf t * cur0 t j := by
      refine ⟨fun t => if ht : t < rows.length then Classical.choose (fit t ht).1 else 1, fun t ht => ?_⟩
      dsimp only
      rw [dif_pos ht]
      exact Classical.choose_spec (fit t ht).1
    have own0 := (Own.start rows.length (eqr rows)).light kf (fun t ht => (hkf t ht).1) (fun t ht => (hkf t ht).2) (by omega)
    have like0 := (Like.start (n := rows.length) (eqr rows)).light kf (fun t ht => (hkf t ht).1) (fun t ht => (hkf t ht).2)
    have eR0 : ∃ ads, G R = some (.lst (refs ads rows.length)) := by obtain ⟨ads, e, _⟩ := ra0; exact ⟨ads, e⟩
    obtain ⟨ads0, eR0⟩ := eR0
    refine ⟨_, rfl, R, _, rfl, .inl (.of eR0), ?_⟩
    rw [refs_len]
    refine ⟨_, rfl, by omega, by omega, ?_⟩
    rw [Int.toNat_natCast]
    refine for_range (lo := 0) (n := rows.length) (fun c σ' G => Same H G ∧ ∃ (cur r' : Nat → Nat → Int) (y2 y3 y4 y5 y6 y7 y8 y9 y10 y11 y13 : Option V), σ' = [some (.ref p), some (.ref R), y2, y3, y4, y5, y6, y7, y8, y9, y10, y11, none, y13, none] ∧ RowsA rows.length rows.length R G cur ∧ Own rows.length c (eqr rows) cur ∧ Like rows.length c r' cur ∧ (∀ i j, (r' i j).natAbs ≤ 2 ^ 64) ∧ ∀ i, i < rows.length → Prim rows.length (cur i))
      ⟨sG, cur0, eqr rows, _, _, _, _, _, _, _, _, _, _, _, rfl, ra0, own0, like0, eB64, fun i hi => (fit i hi).2⟩ (fun c σ' G hc hh => ?_) (fun σ' G hh => ?_)
    · obtain ⟨sG, cur, r', y2, y3, y4, y5, y6, y7, y8, y9, y10, y11, y13, rfl, ⟨ads, eR, eA⟩, own, like, rB, pm⟩ := hh
      have sm : ∀ i j, i < rows.length → j ≤ rows.length → (cur i j).natAbs < 2 ^ 4000 := fun i j hi hj => Nat.lt_of_le_of_lt (like.le hi hj (pm i hi)) (tk_small rB (by omega) j)
      refine ⟨_, rfl, _, rfl, R, _, rfl, .inl (.of eR), ?_⟩
      rw [refs_len]
      have c0 : (0 : Int) + (c : Int) = (c : Int) := by omega
      rw [c0]
      refine ⟨_, _, rfl, ⟨by omega, by omega, by omega, by omega⟩, ?_⟩
      rw [show ((rows.length : Nat) : Int) - (c : Int) = ((rows.length - c : Nat) : Int) by omega, Int.toNat_natCast]
      refine lc_valW (f := fun j => .int ((c + j : Nat) : Int)) (p := fun j => decide (cur (c + j) c ≠ 0)) (walk_range (lo := (c : Int)) (n := rows.length - c)) (fun _ _ _ _ h => h) (fun _ _ => trivial) (by omega) (fun _ => rfl) (fun j x G2 hj ex s2 Rr hR => ?_) (fun j x G2 hj ex hp s2 Rr hR => ?_) (fun D G2 s2 nD eD => ?_)
      · cases (show x = _ from ex)
        refine ⟨_, rfl, _, rfl, R, _, _, .ref (ads (c + j)), rfl, rfl, .inl (.of (s2 _ _ eR)), (by rw [show (c : Int) + (j : Int) = ((c + j : Nat) : Int) by omega]; exact atI_nat (refs_get (by omega))), _, rfl, ads (c + j), _, _, .int (cur (c + j) c), rfl, rfl, .inl (.of (s2 _ _ (eA _ (by omega)).2)), atI_nat (rowV_get (by omega)), rfl, ?_⟩
        refine ⟨_, rfl, ?_⟩
        rw [neV]
        exact hR G2 (Same.refl _)
      · cases (show x = _ from ex)
        refine ⟨_, rfl, ?_⟩
        show Rr (V.int ((c : Int) + (j : Int))) G2
        rw [show (c : Int) + (j : Int) = ((c + j : Nat) : Int) by omega]
        exact hR G2 (Same.refl _)
      have eD : G2 D = some (.lst (((((List.range (rows.length - c)).filter fun j => decide (cur (c + j) c ≠ 0)).map fun j => c + j)).map nV)) := by rw [eD, List.map_map]; rfl
      have thM : ∀ a, a ∈ (((List.range (rows.length - c)).filter fun j => decide (cur (c + j) c ≠ 0)).map fun j => c + j) ↔ c ≤ a ∧ a < rows.length ∧ cur a c ≠ 0 := fun a => by
        rw [List.mem_map]
        constructor
        · rintro ⟨j, m, rfl⟩
          rw [List.mem_filter, List.mem_range, decide_eq_true_eq] at m
          exact ⟨by omega, by omega, m.2⟩
        · rintro ⟨h1, h2, h3⟩
          refine ⟨a - c, List.mem_filter.mpr ⟨List.mem_range.mpr (by omega), ?_⟩, by omega⟩
          rw [decide_eq_true_eq, show c + (a - c) = a by omega]
          exact h3
      have thL : (((List.range (rows.length - c)).filter fun j => decide (cur (c + j) c ≠ 0)).map fun j => c + j).length ≤ 30 := by
        rw [List.length_map]
        have := List.length_filter_le (fun j => decide (cur (c + j) c ≠ 0)) (List.range (rows.length - c))
        rw [List.length_range] at this
        omega
      generalize (((List.range (rows.length - c)).filter fun j => decide (cur (c + j) c ≠ 0)).map fun j => c + j) = th at *
      -- there == []
      refine ⟨_, rfl, (by show 0 ≤ sizeLine; decide), fun E5 n5 => ?_⟩
      have yE5 := same_new n5 (.lst [])
      have aT : At (fun _ => False) (upd G2 E5 (.lst [])) (.lst (th.map fun i => Th.int (i : Nat))) (.ref D) := ⟨D, _, rfl, fun f => f, yE5 _ _ eD, AtAll.nats _⟩
      have aE : At (fun _ => False) (upd G2 E5 (.lst [])) (.lst []) (.ref E5) := ⟨E5, [], rfl, fun f => f, upd_same, .nil⟩
      have lyT : (py (.lst (th.map fun i => Th.int (i : Nat)))).canLay0 = true := lay_lst fun x m => by
        obtain ⟨i, _, rfl⟩ := List.mem_map.mp m
        exact lay_int _
      have lyE : (py (.lst [])).canLay0 = true := lay_lst fun x m => nomatch m
      refine ⟨_, _, At.dp _ _ aT lyT, At.dp _ _ aE lyE, shaped_th lyT (dp_nats _), shaped_th lyE (by decide), _, rfl, ?_⟩
      rw [eqv_lnil]
      cases hth : th with
      | nil =>
        refine iteT (q0 (fun hp => own.none hc (fun i h1 h2 => ?_) hp) _ (sG.trans (s2.trans yE5)))
        refine Classical.byContradiction fun h3 => ?_
        have := (thM i).mpr ⟨h1, h2, h3⟩
        rw [hth] at this
        cases this
      | cons a rest =>
        obtain ⟨hca, han, ha0⟩ := (thM a).mp (by rw [hth]; exact List.mem_cons_self)
        have eD5 := yE5 _ _ eD
        rw [hth] at eD5
        have s3 := s2.trans yE5
        clear aT aE lyT lyE eD
        generalize upd G2 E5 (.lst []) = G3 at *
        have eR3 := s3 _ _ eR
        have eA3 : ∀ t, t < rows.length → ads t ≠ R ∧ G3 (ads t) = some (.lst (rowV (cur t) (rows.length + 1))) := fun t ht => ⟨(eA t ht).1, s3 _ _ (eA t ht).2⟩
        refine iteF ?_
        refine ⟨_, rfl, _, rfl, D, _, 0, _, rfl, rfl, .inl (.of eD5), atI_nat (j := 0) rfl, R, _, _, _, rfl, rfl, .inl (.of eR3), atI_nat (refs_get han), _, rfl, _, rfl, R, _, _, _, rfl, rfl, .inl (.of eR3), atI_nat (refs_get hc), (by show 2 ≤ sizeLine; decide), fun T nT => ?_⟩
        have yT := same_new nT (.tup [V.ref (ads a), V.ref (ads c)])
        refine ⟨T, _, rfl, .of upd_same, rfl, _, _, rfl, _, rfl, _, rfl, R, _, _, c, rfl, rfl, yT _ _ eR3, ixT (by rw [refs_len]; omega), ?_⟩
        have nDR : D ≠ R := fun h => by rw [h, eR] at nD; cases nD
        have nTR : T ≠ R := fun h => by rw [h, eR3] at nT; cases nT
        refine ⟨_, _, rfl, _, rfl, _, rfl, D, _, 0, _, rfl, rfl, .inl (.of (by rw [upd_ne nDR]; exact yT _ _ eD5)), atI_nat (j := 0) rfl, R, _, _, a, rfl, rfl, upd_same, ixT (by rw [List.length_set, refs_len]; omega), ?_⟩
        have eSw : ((refs ads rows.length).set c (.ref (ads a))).set a (.ref (ads c)) = refs (fun i => ads (exch c a i)) rows.length := refs_swap hc han
        rw [eSw]
        have sS : Same H (upd (upd (upd G3 T (.tup [V.ref (ads a), V.ref (ads c)])) R (.lst ((refs ads rows.length).set c (.ref (ads a))))) R (.lst (refs (fun i => ads (exch c a i)) rows.length))) := Same.upd_new (Same.upd_new (sG.trans (s3.trans yT)) nR _) nR _
        have eRS : (upd (upd (upd G3 T (.tup [V.ref (ads a), V.ref (ads c)])) R (.lst ((refs ads rows.length).set c (.ref (ads a))))) R (.lst (refs (fun i => ads (exch c a i)) rows.length))) R = some (.lst (refs (fun i => ads (exch c a i)) rows.length)) := upd_same
        have eAS : ∀ t, t < rows.length → ads t ≠ R ∧ (upd (upd (upd G3 T (.tup [V.ref (ads a), V.ref (ads c)])) R (.lst ((refs ads rows.length).set c (.ref (ads a))))) R (.lst (refs (fun i => ads (exch c a i)) rows.length))) (ads t) = some (.lst (rowV (cur t) (rows.length + 1))) := fun t ht => ⟨(eA3 t ht).1, by rw [upd_ne (eA3 t ht).1, upd_ne (eA3 t ht).1]; exact yT _ _ (eA3 t ht).2⟩
        generalize upd (upd (upd G3 T (.tup [V.ref (ads a), V.ref (ads c)])) R (.lst ((refs ads rows.length).set c (.ref (ads a))))) R (.lst (refs (fun i => ads (exch c a i)) rows.length)) = G4 at *
        have xl : ∀ i, i < rows.length → exch c a i < rows.length := fun i hi => by unfold exch; (repeat' split) <;> omega
        have xc : exch c a c = a := by unfold exch; rw [if_pos rfl]
        have ownS : Own rows.length c (eqr rows) fun i => cur (exch c a i) := own.swap hc han (Nat.le_refl _) hca fun i hi => rfl
        have likeS : Like rows.length c (fun i => r' (exch c a i)) fun i => cur (exch c a i) := like.swap hc han hca fun i hi => rfl
        have pmS : ∀ i, i < rows.length → Prim rows.length (cur (exch c a i)) := fun i hi => pm _ (xl i hi)
        have smS : ∀ i j, i < rows.length → j ≤ rows.length → (cur (exch c a i) j).natAbs < 2 ^ 4000 := fun i j hi hj => sm _ j (xl i hi) hj
        have eAS2 : ∀ t, t < rows.length → ads (exch c a t) ≠ R ∧ G4 (ads (exch c a t)) = some (.lst (rowV (cur (exch c a t)) (rows.length + 1))) := fun t ht => eAS _ (xl t ht)
        have hd0 : cur (exch c a c) c ≠ 0 := by rw [xc]; exact ha0
        generalize hCS : (fun i => cur (exch c a i)) = curS at *
        have cS : ∀ i, cur (exch c a i) = curS i := fun i => congrFun hCS i
        generalize hAS : (fun i => ads (exch c a i)) = adsS at *
        have aS : ∀ i, ads (exch c a i) = adsS i := fun i => congrFun hAS i
        simp only [cS] at pmS smS eAS2 hd0
        simp only [aS] at eAS2
        clear eA eA3 eAS own like pm sm eR eR3 yT eSw
        refine ⟨rfl, _, rfl, _, rfl, R, _, _, _, rfl, rfl, .inl (.of eRS), atI_nat (refs_get hc), ?_⟩
        refine ⟨_, rfl, R, _, rfl, .inl (.of eRS), ?_⟩
        rw [refs_len]
        refine ⟨_, rfl, by omega, by omega, ?_⟩
        rw [Int.toNat_natCast]
        refine for_range (lo := 0) (n := rows.length) (fun t σ' G => Same H G ∧ ∃ (ads1 : Nat → Addr) (cur1 : Nat → Nat → Int) (y10 y11 y13 : Option V), σ' = [some (.ref p), some (.ref R), y2, y3, y4, y5, y6, some (.int (c : Nat)), some (.ref D), some (.ref (adsS c)), y10, y11, none, y13, none] ∧ G R = some (.lst (refs ads1 rows.length)) ∧ (∀ i, i < rows.length → ads1 i ≠ R ∧ G (ads1 i) = some (.lst (rowV (cur1 i) (rows.length + 1)))) ∧ ads1 c = adsS c ∧
          (∀ i, i < rows.length → (i = c ∨ t ≤ i) → cur1 i = curS i) ∧ (∀ i, i < t → i ≠ c → (curS i c = 0 ∧ cur1 i = curS i) ∨ ∃ k : Int, k ≠ 0 ∧ ∀ j, j ≤ rows.length → curS i j * curS c c - curS i c * curS c j = k * cur1 i j) ∧ Own rows.length c (eqr rows) cur1 ∧ ∀ i, i < rows.length → Prim rows.length (cur1 i))
          ⟨sS, adsS, curS, _, _, _, rfl, eRS, eAS2, rfl, fun i _ _ => rfl, fun i hi => by omega, ownS, pmS⟩ (fun t σ' G5 ht hh => ?_) (fun σ' G5 hh => ?_)
        · obtain ⟨sG5, ads1, cur1, y10', y11', y13', rfl, eR5, eA5, ec5, same5, done5, own5, pm5⟩ := hh
          rw [show (0 : Int) + (t : Int) = (t : Int) by omega]
          have e_t : cur1 t = curS t := same5 t ht (.inr (Nat.le_refl t))
          have eH := (eA5 c hc).2
          rw [ec5, same5 c hc (.inl rfl)] at eH
          have eT := (eA5 t ht).2
          rw [e_t] at eT
          refine ⟨_, rfl, _, rfl, R, _, _, _, rfl, rfl, .inl (.of eR5), atI_nat (refs_get ht), _, rfl, ads1 t, _, _, _, rfl, rfl, .inl (.of eT), atI_nat (rowV_get (show c < rows.length + 1 by omega)), ?_⟩
          have keepT : (t = c ∨ curS t c = 0) → (∀ i, i < rows.length → (i = c ∨ t + 1 ≤ i) → cur1 i = curS i) ∧ (∀ i, i < t + 1 → i ≠ c → (curS i c = 0 ∧ cur1 i = curS i) ∨ ∃ k : Int, k ≠ 0 ∧ ∀ j, j ≤ rows.length → curS i j * curS c c - curS i c * curS c j = k * cur1 i j) := fun hk => by
            refine ⟨fun i hi h => same5 i hi (h.imp_right fun h => by omega), fun i hi ne => ?_⟩
            by_cases ei : i = t
            · subst ei
              exact .inl ⟨hk.resolve_left ne, e_t⟩
            · exact done5 i (by omega) ne
          refine ⟨_, rfl, _, rfl, rfl, _, rfl, iteB (fun e1 => ?_) (fun e1 => ?_)⟩
          · have tc : t ≠ c := fun h => by
              have := of_decide_eq_false (not_true e1)
              exact this (by rw [h])
            refine ⟨_, rfl, rfl, _, rfl, iteB (fun e2 => ?_) (fun e2 => ?_)⟩
            · have f0 : curS t c ≠ 0 := fun h => by
                have := of_decide_eq_false (not_true e2)
                exact this (by rw [h])
              have rawB : ∀ j, j < rows.length + 1 → (curS t j * curS c c - curS t c * curS c j).natAbs < 2 ^ 8900 := fun j hj => by
                have b1 := wide_lt (smS t j ht (by omega)) (smS c c hc (by omega))
                have b2 := wide_lt (smS t c ht (by omega)) (smS c j hc (by omega))
                have : (2 : Nat) ^ (4000 + 4000) + 2 ^ (4000 + 4000) ≤ 2 ^ 8900 := by
                  rw [← Nat.two_mul, ← Nat.pow_succ']
                  exact Nat.pow_le_pow_right (by decide) (by decide)
                omega
              have cm : ∀ i j i' j', i < rows.length → j ≤ rows.length → i' < rows.length → j' ≤ rows.length → CMulW (curS i j) (curS i' j') := fun i j i' j' h1 h2 h3 h4 => wide_mul (smS i j h1 h2) (smS i' j' h3 h4) (by decide) (by decide) (by decide)
              refine ⟨_, rfl, adsS c, _, rfl, .inl (.of eH), ?_⟩
              rw [rowV_len]
              refine ⟨_, rfl, by omega, by omega, ?_⟩
              rw [Int.toNat_natCast]
              refine lc_valW (f := fun j => .int (curS t j * curS c c - curS t c * curS c j)) (p := fun _ => true) (walk_range (lo := 0) (n := rows.length + 1)) (fun _ _ _ _ h => h) (fun _ _ => trivial) (by omega) (fun _ => rfl) (fun j x G hj ex sG R hR => hR G (Same.refl G)) (fun j x G hj ex hp sG Rr hR => ?_) (fun B G6 s6 nB eB => ?_)
              · cases (show x = _ from ex)
                have aj : ∀ f : Nat → Int, atI (rowV f (rows.length + 1)) (0 + (j : Int)) = some (.int (f j)) := fun f => by rw [Int.zero_add]; exact atI_nat (rowV_get hj)
                exact ⟨_, rfl, _, rfl, R, _, _, _, rfl, rfl, .inl (.of (sG _ _ eR5)), atI_nat (refs_get ht), _, rfl, ads1 t, _, _, _, rfl, rfl, .inl (.of (sG _ _ eT)), aj _, _, rfl, _, rfl, adsS c, _, _, _, rfl, rfl, .inl (.of (sG _ _ eH)), atI_nat (rowV_get (by omega)), _, _, rfl, rfl, cm _ _ _ _ ht (by omega) hc (by omega), _, rfl, _, rfl, _, rfl, adsS c, _, _, _, rfl, rfl, .inl (.of (sG _ _ eH)), aj _, _, _, rfl, rfl, cm _ _ _ _ ht (by omega) hc (by omega), _, _, rfl, rfl, hR G (Same.refl G)⟩
              rw [filt_all] at eB
              have eB' : G6 B = some (.lst (rowV (fun j => curS t j * curS c c - curS t c * curS c j) (rows.length + 1))) := eB
              have nBR : B ≠ R := fun h => by rw [h, eR5] at nB; cases nB
              have fin : ∀ (N : Addr) (G7 : Hp) (g : Nat → Int), Same G5 G7 → N ≠ R → G7 N = some (.lst (rowV g (rows.length + 1))) → (∃ k : Int, k ≠ 0 ∧ ∀ j, j ≤ rows.length → curS t j * curS c c - curS t c * curS c j = k * g j) → Prim rows.length g →
                  G7 R = some (.lst (refs ads1 rows.length)) ∧ Same H (upd G7 R (.lst ((refs ads1 rows.length).set t (.ref N)))) ∧ (upd G7 R (.lst ((refs ads1 rows.length).set t (.ref N)))) R = some (.lst (refs (fun i => if i = t then N else ads1 i) rows.length)) ∧
                  (∀ i, i < rows.length → (fun i => if i = t then N else ads1 i) i ≠ R ∧ (upd G7 R (.lst ((refs ads1 rows.length).set t (.ref N)))) ((fun i => if i = t then N else ads1 i) i) = some (.lst (rowV ((fun i => if i = t then g else cur1 i) i) (rows.length + 1)))) ∧ (fun i => if i = t then N else ads1 i) c = adsS c ∧
                  (∀ i, i < rows.length → (i = c ∨ t + 1 ≤ i) → (fun i => if i = t then g else cur1 i) i = curS i) ∧ (∀ i, i < t + 1 → i ≠ c → (curS i c = 0 ∧ (fun i => if i = t then g else cur1 i) i = curS i) ∨ ∃ k : Int, k ≠ 0 ∧ ∀ j, j ≤ rows.length → curS i j * curS c c - curS i c * curS c j = k * (fun i => if i = t then g else cur1 i) i j) ∧ Own rows.length c (eqr rows) (fun i => if i = t then g else cur1 i) ∧ ∀ i, i < rows.length → Prim rows.length ((fun i => if i = t then g else cur1 i) i) := fun N G7 g s7 nN eN ⟨k, hk, hkg⟩ hp7 => by
                refine ⟨s7 _ _ eR5, Same.upd_new (sG5.trans s7) nR _, by rw [upd_same, refs_set ht], fun i hi => ?_, ?_, fun i hi h => ?_, fun i hi ne => ?_, ?_, fun i hi => ?_⟩
                · dsimp only
                  by_cases ei : i = t
                  · rw [if_pos ei, if_pos ei]
                    exact ⟨nN, by rw [upd_ne nN]; exact eN⟩
                  · rw [if_neg ei, if_neg ei]
                    exact ⟨(eA5 i hi).1, by rw [upd_ne (eA5 i hi).1]; exact s7 _ _ (eA5 i hi).2⟩
                · dsimp only
                  rw [if_neg (fun h => tc h.symm)]; exact ec5
                · dsimp only
                  rw [if_neg (by omega)]
                  exact same5 i hi (h.imp_right fun h => by omega)
                · dsimp only
                  by_cases ei : i = t
                  · subst ei
                    rw [if_pos rfl]
                    exact .inr ⟨k, hk, hkg⟩
                  · rw [if_neg ei]
                    exact done5 i (by omega) ne
                · have c1 : cur1 c = curS c := same5 c hc (.inl rfl)
                  have o2 := own5.clear (a := t) (cur' := fun i => if i = t then fun j => curS t j * curS c c - curS t c * curS c j else cur1 i) hc ht tc (by rw [c1]; exact hd0) (fun i hi ne => by rw [if_neg ne]) (fun j hj => by rw [if_pos rfl, e_t, c1])
                  refine o2.light (fun i => if i = t then k else 1) (fun i hi => ?_) (fun i hi j hj => ?_) (by omega)
                  · split
                    · exact hk
                    · decide
                  · by_cases ei : i = t
                    · rw [if_pos ei, if_pos ei, if_pos ei]; exact hkg j hj
                    · rw [if_neg ei, if_neg ei, if_neg ei, Int.one_mul]
                · dsimp only
                  by_cases ei : i = t
                  · rw [if_pos ei]; exact hp7
                  · rw [if_neg ei]; exact pm5 i hi
              refine ⟨B, _, rows.length + 1, rfl, eB', by omega, rawB, fun g0 G7 s7 => ?_, fun g0 N G7 s7 nN eN => ?_⟩
              · obtain ⟨f1, f2, f3, f4, f5, f6, f7, f8, f9⟩ := fin B G7 _ (s6.trans s7) nBR (s7 _ _ eB') ⟨1, by decide, fun j _ => by rw [Int.one_mul]⟩ (.inl fun j hj => zero_light g0 hj)
                exact ⟨_, rfl, _, rfl, R, _, _, t, rfl, rfl, f1, ixT (by rw [refs_len]; omega), f2, _, _, _, _, _, rfl, f3, f4, f5, f6, f7, f8, f9⟩
              · obtain ⟨f1, f2, f3, f4, f5, f6, f7, f8, f9⟩ := fin N G7 _ (s6.trans s7) (fun h => by rw [h, s6 _ _ eR5] at nN; cases nN) eN ⟨_, by exact Int.ofNat_ne_zero.mpr g0, fun j hj => (Int.mul_ediv_cancel' (gcN_dvd (f := fun j => curS t j * curS c c - curS t c * curS c j) (show j < rows.length + 1 by omega))).symm⟩ (prim_light g0)
                exact ⟨_, rfl, _, rfl, R, _, _, t, rfl, rfl, f1, ixT (by rw [refs_len]; omega), f2, _, _, _, _, _, rfl, f3, f4, f5, f6, f7, f8, f9⟩
            · have f0 : curS t c = 0 := by
                have := of_decide_eq_true (not_false' e2)
                injection this
              obtain ⟨k1, k2⟩ := keepT (.inr f0)
              exact ⟨sG5, ads1, cur1, _, _, _, rfl, eR5, eA5, ec5, k1, k2, own5, pm5⟩
          · have tc : t = c := by
              have := of_decide_eq_true (not_false' e1)
              injection this with this
              exact Int.ofNat.inj this
            obtain ⟨k1, k2⟩ := keepT (.inl tc)
            exact ⟨sG5, ads1, cur1, _, _, _, rfl, eR5, eA5, ec5, k1, k2, own5, pm5⟩
        · obtain ⟨sG5, ads1, cur1, y10', y11', y13', rfl, eR5, eA5, ec5, same5, done5, own5, pm5⟩ := hh
          have c1 : cur1 c = curS c := same5 c hc (.inl rfl)
          have z5 : ∀ i, i < rows.length → i ≠ c → cur1 i c = 0 := fun i hi ne => by
            rcases done5 i hi ne with ⟨h1, h2⟩ | ⟨k, hk, h2⟩
            · rw [h2]; exact h1
            · have := h2 c (by omega)
              have : k * cur1 i c = 0 := by rw [← this]; grind
              rcases Int.mul_eq_zero.mp this with h | h
              · exact absurd h hk
              · exact h
          exact ⟨sG5, cur1, fun i => r' (exch c a i), _, _, _, _, _, _, _, _, _, _, _, rfl, ⟨ads1, eR5, eA5⟩, own5.next (by rw [c1]; exact hd0) z5, likeS.next hc hd0 c1 (fun i hi ne => done5 i hi ne), fun i j => rB _ _, pm5⟩
    · obtain ⟨sG, cur, r', y2, y3, y4, y5, y6, y7, y8, y9, y10, y11, y13, rfl, ⟨ads, eR, eA⟩, own, like, rB, pm⟩ := hh
      have sm : ∀ i j, i < rows.length → j ≤ rows.length → (cur i j).natAbs < 2 ^ 4000 := fun i j hi hj => Nat.lt_of_le_of_lt (like.le hi hj (pm i hi)) (tk_small rB (by omega) j)
      refine ⟨_, rfl, R, _, rfl, .inl (.of eR), ?_⟩
      rw [refs_len]
      refine ⟨_, rfl, by omega, by omega, ?_⟩
      rw [Int.toNat_natCast]
      refine lc_newZ (Z := Trk H) (f := fun j => sgP (cur j rows.length) (cur j j)) (walk_range (lo := 0) (n := rows.length)) (fun _ _ _ _ h => h) (fun _ _ => trivial) (by omega) (fun _ => rfl) (fun D nD j x G2 hj ex s2 tD Rr hR => ?_) (fun D G2 vs s2 nD eD aD => ?_)
      · cases (show x = _ from ex)
        dsimp only
        rw [show (0 : Int) + (j : Int) = (j : Int) by omega]
        have eRj := s2 _ _ eR
        have eAj := s2 _ _ (eA j hj).2
        have l1 : atI (rowV (cur j) (rows.length + 1)) (-1) = some (.int (cur j rows.length)) := by rw [rowV_succ]; exact atI_last _ _
        refine ⟨_, rfl, _, rfl, R, _, _, _, rfl, rfl, .inl (.of eRj), atI_nat (refs_get hj), 1, rfl, ads j, _, _, _, rfl, rfl, .inl (.of eAj), l1, _, rfl, _, rfl, R, _, _, _, rfl, rfl, .inl (.of eRj), atI_nat (refs_get hj), _, rfl, ads j, _, _, _, rfl, rfl, .inl (.of eAj), atI_nat (rowV_get (by omega)), _, _, rfl, own.dia j hj, Nat.lt_of_lt_of_le (sm j j hj (by omega)) (Nat.pow_le_pow_right (by decide) (by decide)), fun p3 G3 s3 n3 e3 => ?_⟩
        refine hR _ G3 s3 ⟨p3, _, rfl, fun h => ?_, e3, .cons rfl (.cons rfl .nil)⟩
        rcases h with rfl | h
        · exact tD n3
        · exact Trk.same (sG.trans s2) h n3
      refine ⟨D, vs, rfl, .inl ⟨.of eD, fun p4 n4 => ?_⟩⟩
      have y4' := same_new n4 (.tup vs)
      have s4 := sG.trans (s2.trans y4')
      have e4 : (upd G2 p4 (.tup vs)) p4 = some (.tup vs) := upd_same
      have a4 : AtAll (Trk H) (upd G2 p4 (.tup vs)) ((List.range rows.length).map fun i => sgP (cur i rows.length) (cur i i)) vs := (aD.less fun a h => .inr h).same y4'
      have aT : At (Trk H) (upd G2 p4 (.tup vs)) (.tup ((List.range rows.length).map fun i => sgP (cur i rows.length) (cur i i))) (.ref p4) := ⟨p4, vs, rfl, fun h => Trk.not n4 (Trk.same (sG.trans s2) h), e4, a4⟩
      generalize upd G2 p4 (.tup vs) = G4 at *
      have lvs := a4.len
      rw [List.length_map, List.length_range] at lvs
      refine ⟨_, rfl, p4, rfl, ⟨_, .of e4⟩, lc_valW (f := fun j => .bl (decide (cur j rows.length / sgcd (cur j rows.length) (cur j j) < 0))) (p := fun _ => true) walk_tup (fun _ _ _ _ h => h) (fun G sG => .of (sG _ _ e4)) (by omega) (fun _ => rfl) (fun j x G hj ex sG R hR => hR G (Same.refl G)) (fun j x G hj ex hp sG Rr hR => ?_) (fun B G6 s6 nB eB => ?_)⟩
      · obtain ⟨d, ed, hd⟩ := (a4.same sG).get ex
        rw [List.getElem?_map, List.getElem?_range (by omega)] at ed
        cases ed
        obtain ⟨q5, va, vb, rfl, e5, ha, hb⟩ := hd.pair
        cases (show va = _ from ha)
        exact ⟨_, rfl, q5, _, 0, _, rfl, rfl, .of e5, rfl, _, _, rfl, rfl, hR G (Same.refl G)⟩
      rw [filt_all, lvs] at eB
      have eB' : G6 B = some (.lst (((List.range rows.length).map fun j => decide (cur j rows.length / sgcd (cur j rows.length) (cur j j) < 0)).map V.bl)) := by rw [eB, List.map_map]; rfl
      refine ⟨B, _, rfl, .of eB', _, rfl, iteB (fun e => ?_) (fun e => ?_)⟩
      · rw [List.any_map, List.any_eq_true] at e
        obtain ⟨j, mj, hj⟩ := e
        have hj' := of_decide_eq_true (show decide (cur j rows.length / sgcd (cur j rows.length) (cur j j) < 0) = true from hj)
        rw [List.mem_range] at mj
        exact q0 (fun hp => own.neg (eqr_sg rows) mj ((sgn_lt (own.dia j mj)).mp hj') hp) _ (s4.trans s6)
      · refine ⟨_, rfl, q1 cur _ G6 own (fun i hi => ?_) (s4.trans s6) (aT.same s6)⟩
        refine Classical.byContradiction fun hn => ?_
        rw [List.any_map] at e
        have := List.any_eq_false.mp e i (List.mem_range.mpr hi)
        exact this (decide_eq_true ((sgn_lt (own.dia i hi)).mpr (by omega)))
end
end KL
end
section
set_option maxHeartbeats 1000000
namespace KL
open PySem PySem.Spec PyProof.Rows L2
theorem own_wos {z : Int} {rows : List Th} (ok : MOk z rows) {cur : Nat → Nat → Int} (own : Own (trimL z rows).length (trimL z rows).length (eqr (trimL z rows)) cur) (nn : ∀ i, i < (trimL z rows).length → 0 ≤ cur i (trimL z rows).length * cur i i) :
    PosR (trimL z rows) ∧ ((List.range (trimL z rows).length).map fun i => sgP (cur i (trimL z rows).length) (cur i i)) = wosL (trimL z rows) := by
  have hp : PosR (trimL z rows) := by
    by_cases hk : keep rows = []
    · have : trimL z rows = [bareRow z] := by unfold trimL; rw [if_pos hk]
      rw [this]; exact bare_pos z
    · exact own.pos (eqr_sg _) (eqr_live (trimL_ok ok) (trim_lvE ok hk)) (eqr_id _) nn
  refine ⟨hp, List.map_congr_left fun i m => ?_⟩
  have hi := List.mem_range.mp m
  have e := own.same hp hi
  obtain ⟨h1, h2, _⟩ := low_eq (a := Yk (eqr (trimL z rows)) (trimL z rows).length i (trimL z rows).length) (b := dk (eqr (trimL z rows)) (trimL z rows).length) (c := cur i (trimL z rows).length) (e := cur i i) (s := sgcd (cur i (trimL z rows).length) (cur i i)) (hp _ (Nat.le_refl _)) (own.dia i hi) e rfl
  show Th.tup [.int _, .int _] = Th.tup [.int _, .int _]
  rw [h1, h2]
  rfl
/-- the law's own worths of a trimmed machine -/
def spOwn1 : Sp := fun vs H Q _ => ∃ (Z : Zone) (u : V) (z : Int) (rows : List Th), vs = [u] ∧ At Z H (.tup [.int z, .tup (trimL z rows)]) u ∧ MOk z rows ∧
  (PosR (trimL z rows) → ∀ v H', Same H H' → At (Trk H) H' (wosT (trimL z rows)) v → Q v H') ∧ (¬ PosR (trimL z rows) → ∀ H', Same H H' → Q .non H')
section
variable {P : Program} {w : World} {K : PySem.W.Frag} {mg : Str → Option Value} {base : Heap} {k : Nat} {t1 t2 t3 : Tok}
theorem own_one (c : Cal P w K mg base CX0 k "_law_worths" ["_law_small"] spOwn) : Cal P w K mg base CX0 k "_law_worths" ["_law_small"] spOwn1 :=
  c.imp fun vs H Q E h => by
    obtain ⟨Zn, u, z, rows, rfl, hu, ok, q1, q0⟩ := h
    refine ⟨Zn, u, z, trimL z rows, rfl, hu, trimL_ok ok, fun cur v H' own nn s' a' => ?_, q0⟩
    obtain ⟨hp, e⟩ := own_wos ok own nn
    rw [e] at a'
    exact q1 hp v H' s' a'
end
theorem wos_fracs {z : Int} {rows : List Th} (ok : MOk z rows) (hp : PosR rows) : Fracs (dk (eqr rows) rows.length).natAbs (wosL rows) := by
  have n30 := ok.n30
  have d0 := hp _ (Nat.le_refl _)
  have ds := dk_small (k := rows.length) (eqr_abs ok) (by omega)
  refine ⟨by omega, ds, wos_frac hp, fun f m => ?_, fun f m => ?_⟩
  · obtain ⟨i, mi, rfl⟩ := List.mem_map.mp m
    show (lowT _ _).natAbs < 2 ^ 4000
    refine low_abs ?_
    exact Nat.lt_of_le_of_lt (Dt_abs (N := 31) (M := 31 * 2 ^ 64) (eqr_abs ok) (Nat.le_refl _) _ (by omega)) (pow_small (by omega))
  · obtain ⟨i, mi, rfl⟩ := List.mem_map.mp m
    show (dk (eqr rows) rows.length / ((Nat.gcd (Yk (eqr rows) rows.length i rows.length).natAbs (dk (eqr rows) rows.length).natAbs : Nat) : Int)).natAbs ∣ _
    have p2 := (low_parts (a := Yk (eqr rows) rows.length i rows.length) d0).2.1
    exact Int.natAbs_dvd_natAbs.mpr ⟨_, p2.symm⟩
theorem nought_fracs (n : Nat) : Fracs 1 (List.replicate n (.tup [.int 0, .int 1])) := by
  refine ⟨by decide, Nat.lt_of_lt_of_le (by decide : 1 < 2 ^ 1) (Nat.pow_le_pow_right (by decide) (by decide)), fun f m => ?_, fun f m => ?_, fun f m => ?_⟩
  · rw [(List.mem_replicate.mp m).2]; decide
  · rw [(List.mem_replicate.mp m).2]; exact Nat.pow_pos (by decide)
  · rw [(List.mem_replicate.mp m).2]; exact Nat.dvd_refl _
theorem Fracs.small {D : Nat} {fs : List Th} (h : Fracs D fs) : SmallF (.tup fs) := fun ys e hB => by
  injection e with e
  subst e
  refine ⟨fun f m => Nat.lt_of_lt_of_le (h.tp f m) (Nat.pow_le_pow_right (by decide) (by decide)), D, h.D0, Nat.lt_of_lt_of_le h.D1 (Nat.pow_le_pow_right (by decide) (by decide)), h.bt⟩
theorem Fracs.lay {D : Nat} {fs : List Th} (h : Fracs D fs) : (py (.tup fs)).canLay0 = true := lay_tup fun x m => (h.item m).ly
theorem Fracs.dp {D : Nat} {fs : List Th} (h : Fracs D fs) : dp (.tup fs) ≤ 64 := by
  have := dpL_le fun x m => (h.item (f := x) m).dp
  show dpL fs + 1 ≤ 64
  omega
theorem raise_one {a b : Int} {j k : Nat} (h : RaiseIs a b j) (g : RaiseIs a b k) : j = k := by
  rcases Nat.lt_trichotomy j k with l | l | l
  · have := g.2 j l; have := h.1; omega
  · exact l
  · have := h.2 k l; have := g.1; omega
end KL
end
section
set_option maxHeartbeats 1000000
namespace KL
open PySem PySem.Spec PyProof.Rows L2
/-! ### determinants look at their own columns alone -/
theorem Dt_cols {r s : Nat → Nat → Int} : ∀ {n : Nat} {c : Nat → Nat}, (∀ t, t < n → ∀ x, x < n → r t (c x) = s t (c x)) → Dt r n c = Dt s n c
  | 0, _, _ => rfl
  | n + 1, c, h => by
    rw [Dt, Dt]
    refine sumN_congr fun p hp => ?_
    rw [h n (by omega) p hp, Dt_cols (n := n) (c := fun x => c (skip p x)) fun t ht x hx => h t (by omega) (skip p x) (by unfold skip; split <;> omega)]
theorem dk_cols {r s : Nat → Nat → Int} {n m : Nat} (hm : m ≤ n) (h : ∀ t, t < n → ∀ j, j < n → r t j = s t j) : dk r m = dk s m := Dt_cols fun t ht x hx => h t (by omega) x (by show x < n; omega)
/-- the last column otherwise -/
def withR (n : Nat) (r : Nat → Nat → Int) (c : Nat → Int) (t j : Nat) : Int := if j = n then c t else r t j
theorem withR_dk {n m : Nat} {r : Nat → Nat → Int} {c : Nat → Int} (hm : m ≤ n) : dk (withR n r c) m = dk r m := dk_cols hm fun t _ j hj => by unfold withR; rw [if_neg (by omega)]
theorem withR_Lf {n : Nat} {r : Nat → Nat → Int} {c : Nat → Int} {X : Nat → Int} {D : Int} (t : Nat) : Lf n X D (withR n r c t) = sumN n (fun j => r t j * X j) - D * c t := by
  unfold Lf withR
  rw [if_pos rfl, sumN_congr fun j hj => by rw [if_neg (by omega)]]
theorem withR_sg {n : Nat} {r : Nat → Nat → Int} {c : Nat → Int} (s : Sg n r) (hc : ∀ t, t < n → 0 ≤ c t) : Sg n (withR n r c) := by
  obtain ⟨h1, h2⟩ := s
  refine ⟨fun i j hi hj ne => ?_, fun i j hi hj => ?_⟩
  · unfold withR
    rw [if_neg (by omega)]
    exact h1 i j hi hj ne
  · unfold withR
    split
    · exact hc i hi
    · exact h2 i j hi hj
/-- what lies above nought at a state that is come to lies above nought at the start -/
theorem sol_sure {rows : List Th} (hp : PosR rows) {V σ : Nat → Int} {D : Int} (hD : 0 < D) (hσ : ∀ t, t < rows.length → 0 ≤ σ t) (hV : ∀ t, t < rows.length → sumN rows.length (fun j => eqr rows t j * V j) = D * σ t) : ∀ q, q < rows.length → 0 ≤ V q := fun q hq => by
  have sl := one_sol (r := withR rows.length (eqr rows) σ) (n := rows.length) (X := V) (D := D) (fun t ht => by rw [withR_Lf, hV t ht]; omega) hq
  have nn := sol_nonneg (withR_sg (eqr_sg rows) hσ) (fun m hm => by rw [withR_dk hm]; exact hp m hm) hq
  rw [withR_dk (Nat.le_refl _)] at sl
  have d := hp _ (Nat.le_refl _)
  refine Classical.byContradiction fun c => ?_
  have h1 : dk (eqr rows) rows.length * V q < 0 := Int.mul_neg_of_pos_of_neg d (by omega)
  have h2 : 0 ≤ D * Yk (withR rows.length (eqr rows) σ) rows.length q rows.length := Int.mul_nonneg (by omega) nn
  omega
theorem sumN_ge {f : Nat → Int} {q : Nat} : ∀ {n : Nat}, (∀ i, i < n → 0 ≤ f i) → q < n → f q ≤ sumN n f
  | 0, _, h => by omega
  | n + 1, h, hq => by
    rw [sumN]
    have hn := h n (by omega)
    have nn : ∀ m, m ≤ n → 0 ≤ sumN m f := fun m => by
      induction m with
      | zero => intro _; exact Int.le_refl _
      | succ m ih => intro hm; rw [sumN]; have := ih (by omega); have := h m (by omega); omega
    by_cases e : q = n
    · subst e; have := nn q (Nat.le_refl _); omega
    · have := sumN_ge (n := n) (fun i hi => h i (by omega)) (show q < n by omega)
      omega
/-- 2 ** 60 times a state's own share, put apart -/
theorem eq_split {rows : List Th} {V : Nat → Int} {t : Nat} (ht : t < rows.length) : sumN rows.length (fun j => eqr rows t j * V j) = 2 ^ 60 * V t - sumN rows.length (fun j => shS (stepsOf ((rows[t]?).getD .non)) j * V j) := by
  rw [sumN_congr (g := fun j => (if j = t then 2 ^ 60 * V t else 0) + - (shS (stepsOf ((rows[t]?).getD .non)) j * V j)) fun j hj => by
    unfold eqr
    rw [if_pos hj]
    by_cases e : j = t
    · rw [if_pos e, if_pos e, e]; grind
    · rw [if_neg e, if_neg e]; grind]
  rw [sumN_add, sumN_neg, sumN_one ht fun j hj ne => if_neg ne, if_pos rfl]
  omega
theorem sol_above {z : Int} {rows : List Th} (ok : MOk z rows) {V σ : Nat → Int} {D : Int} (hD : 0 < D) (nn : ∀ q, q < rows.length → 0 ≤ V q) (hσ : ∀ t, t < rows.length → 0 ≤ σ t) (hV : ∀ t, t < rows.length → sumN rows.length (fun j => eqr rows t j * V j) = D * σ t) {a b : Nat} (ha : a < rows.length) (r : Rc rows a b) (hb : 0 < σ b) : 0 < V a := by
  have part : ∀ t, t < rows.length → ∀ j, j < rows.length → 0 ≤ shS (stepsOf ((rows[t]?).getD .non)) j * V j := fun t _ j hj => Int.mul_nonneg (shS_nn _ _) (nn j hj)
  have whole : ∀ t, t < rows.length → (0 < σ t ∨ ∃ j, j < rows.length ∧ 0 < shS (stepsOf ((rows[t]?).getD .non)) j ∧ 0 < V j) → 0 < V t := fun t ht h => by
    have e := hV t ht
    rw [eq_split ht] at e
    have nonn : 0 ≤ sumN rows.length (fun j => shS (stepsOf ((rows[t]?).getD .non)) j * V j) := by
      have := sumN_ge (n := rows.length) (part t ht) ht
      have := part t ht t ht
      omega
    have h0 : 0 ≤ D * σ t := Int.mul_nonneg (by omega) (hσ t ht)
    rcases h with h | ⟨j, hj, h1, h2⟩
    · have := Int.mul_pos hD h
      omega
    · have g := sumN_ge (n := rows.length) (part t ht) hj
      have := Int.mul_pos h1 h2
      omega
  have key : ∀ c, Rc rows a c → 0 < V c → 0 < V a := fun c r => by
    induction r with
    | base m => rw [List.mem_singleton.mp m]; exact fun h => h
    | step r0 m ih =>
      rename_i i t
      intro h
      have hi := ok.rc_lt ha r0
      obtain ⟨l, mo, hl2, es⟩ := nx_step ok m
      have mem : (Th.tup [.int mo, .int (t : Int)]) ∈ stepsOf ((rows[i]?).getD .non) := by
        unfold stepAt at es
        cases eg : (stepsOf ((rows[i]?).getD .non))[l]? with
        | none => rw [eg] at es; cases es
        | some x =>
          rw [eg] at es
          have es' : x = .tup [.int mo, .int (t : Int)] := es
          rw [← es']
          exact List.mem_of_getElem? eg
      have p := shS_pos (j := t) (st := .tup [.int mo, .int (t : Int)]) (by
        show 0 < (if (t : Int) = (t : Int) then (2 : Int) ^ (60 - mo).toNat else 0)
        rw [if_pos rfl]; exact pow_pos60 mo) mem
      exact ih (whole i hi (.inr ⟨t, ok.rc_lt ha (.step r0 m), p, h⟩))
  exact key b r (whole b (ok.rc_lt ha r) (.inl hb))
/-! ### rows' sums -/
/-- what a step counts, of 2 ** 60 -/
def kT : Th → Int
  | .tup [.int m, .int _] => 2 ^ (60 - m).toNat
  | _ => 0
def kS (ss : List Th) : Int := (ss.map kT).sum
def kR (r : Th) : Int := shE (endOf r) + kS (stepsOf r)
theorem shT_sum {n : Nat} {st : Th} (h : StepIs (n : Int) st) : sumN n (fun j => shT j st) = kT st := by
  rcases h with rfl | ⟨m, s, rfl, m0, m1, s0, s1⟩
  · exact sumN_zero fun j hj => rfl
  · obtain ⟨t, rfl⟩ : ∃ t : Nat, s = (t : Int) := ⟨s.toNat, by omega⟩
    rw [sumN_one (q := t) (by omega) fun j hj ne => ?_]
    · show (if (t : Int) = (t : Int) then (2 : Int) ^ (60 - m).toNat else 0) = 2 ^ (60 - m).toNat
      rw [if_pos rfl]
    · show (if (t : Int) = (j : Int) then (2 : Int) ^ (60 - m).toNat else 0) = 0
      rw [if_neg (by omega)]
theorem shS_sum {n : Nat} : ∀ {ss : List Th}, (∀ st ∈ ss, StepIs (n : Int) st) → sumN n (fun j => shS ss j) = kS ss
  | [], _ => sumN_zero fun j hj => rfl
  | st :: ss, h => by
    have e : ∀ j, shS (st :: ss) j = shT j st + shS ss j := fun j => by unfold shS; rw [List.map_cons, List.sum_cons]
    rw [sumN_congr fun j _ => e j, sumN_add, shT_sum (h st List.mem_cons_self), shS_sum fun x m => h x (List.mem_cons_of_mem _ m)]
    unfold kS
    rw [List.map_cons, List.sum_cons]
theorem ones_sum {z : Int} {rows : List Th} (ok : MOk z rows) {t : Nat} (ht : t < rows.length) : sumN rows.length (fun j => eqr rows t j * 1) = 2 ^ 60 - kS (stepsOf ((rows[t]?).getD .non)) := by
  obtain ⟨e, ss, er, h1, h2, h3⟩ := ok.row ht
  rw [eq_split (V := fun _ => 1) ht, sumN_congr (g := fun j => shS (stepsOf ((rows[t]?).getD .non)) j) fun j _ => Int.mul_one _, er]
  show 2 ^ 60 * 1 - sumN rows.length (fun j => shS ss j) = 2 ^ 60 - kS ss
  rw [shS_sum h3, Int.mul_one]
theorem end_col (rows : List Th) (t : Nat) : eqr rows t rows.length = shE (endOf ((rows[t]?).getD .non)) := by
  unfold eqr
  rw [if_neg (by omega), if_pos rfl]
/-- each row's sum is just 1: each worth is 1 -/
theorem just_one {z : Int} {rows : List Th} (ok : MOk z rows) (h : ∀ t, t < (trimL z rows).length → kR (((trimL z rows)[t]?).getD .non) = 2 ^ 60) : PosR (trimL z rows) ∧ ∀ q, q < (trimL z rows).length → Yk (eqr (trimL z rows)) (trimL z rows).length q (trimL z rows).length = dk (eqr (trimL z rows)) (trimL z rows).length := by
  have okT := trimL_ok ok
  have so : ∀ t, t < (trimL z rows).length → Lf (trimL z rows).length (fun _ => 1) 1 (eqr (trimL z rows) t) = 0 := fun t ht => by
    unfold Lf
    rw [ones_sum okT ht, end_col]
    have := h t ht
    unfold kR at this
    omega
  refine ⟨sol_Pos ok (by decide) (fun _ _ => by decide) so, fun q hq => ?_⟩
  have := one_sol so hq
  omega
/-- a row's sum is below 1, at a state that is come to, others at most 1: the total is below 1 -/
theorem below_one {z : Int} {rows : List Th} (ok : MOk z rows) (hk : keep rows ≠ []) (h : ∀ t, t < (trimL z rows).length → kR (((trimL z rows)[t]?).getD .non) ≤ 2 ^ 60) {b : Nat} (rb : Rc (trimL z rows) 0 b) (hb : kR (((trimL z rows)[b]?).getD .non) < 2 ^ 60) :
    PosR (trimL z rows) ∧ Yk (eqr (trimL z rows)) (trimL z rows).length 0 (trimL z rows).length < dk (eqr (trimL z rows)) (trimL z rows).length := by
  have okT := trimL_ok ok
  have n1 := okT.n1
  have lv := eqr_live okT (trim_lvE ok hk)
  generalize trimL z rows = TL at *
  have hp : PosR TL := by
    have sg := withR_sg (c := fun t => 2 ^ 60 - kS (stepsOf ((TL[t]?).getD .non))) (eqr_sg TL) fun t ht => by
      have := h t ht
      unfold kR at this
      have := shE_nn (endOf ((TL[t]?).getD .non))
      omega
    have pp := piv_pos (n := TL.length) (r := withR TL.length (eqr TL) fun t => 2 ^ 60 - kS (stepsOf ((TL[t]?).getD .non))) (X := fun _ => 1) (D := 1) sg ?_ ?_ (by decide) (fun _ _ => by decide) (fun t ht => ?_) TL.length (Nat.le_refl _)
    · intro m hm
      have := pp m hm
      rwa [withR_dk hm] at this
    · intro U hU h1 h2
      refine lv U hU (fun t ht ut j hj nj => ?_) fun t ht ut => ?_
      · have := h1 t ht ut j hj nj
        unfold withR at this
        rwa [if_neg (by omega)] at this
      · have := h2 t ht ut
        unfold withR at this
        rw [if_pos rfl] at this
        have h3 : 2 ^ 60 - kS (stepsOf ((TL[t]?).getD .non)) = 0 := this
        have k := h t ht
        unfold kR at k
        have := shE_nn (endOf ((TL[t]?).getD .non))
        rw [end_col]
        omega
    · intro i t hi ht
      unfold withR
      rw [if_neg (by omega)]
      exact eqr_id TL i t hi ht
    · rw [withR_Lf, ones_sum okT ht]
      omega
  refine ⟨hp, ?_⟩
  have d0 := hp _ (Nat.le_refl _)
  have hV : ∀ t, t < TL.length → sumN TL.length (fun j => eqr TL t j * (dk (eqr TL) TL.length - Yk (eqr TL) TL.length j TL.length)) = dk (eqr TL) TL.length * (2 ^ 60 - kR ((TL[t]?).getD .non)) := fun t ht => by
    have e1 := ones_sum okT ht
    have e2 := the_sol (r := eqr TL) (n := TL.length) (fun m hm => by have := hp m hm; omega) ht
    unfold Lf at e2
    rw [end_col] at e2
    rw [sumN_congr (g := fun j => dk (eqr TL) TL.length * (eqr TL t j * 1) + - (eqr TL t j * Yk (eqr TL) TL.length j TL.length)) fun j _ => by grind, sumN_add, sumN_mul, sumN_neg, e1]
    unfold kR
    grind
  have hσ : ∀ t, t < TL.length → 0 ≤ (fun t => 2 ^ 60 - kR ((TL[t]?).getD .non)) t := fun t ht => by have := h t ht; show 0 ≤ 2 ^ 60 - kR ((TL[t]?).getD .non); omega
  have nn := sol_sure hp d0 hσ hV
  have := sol_above okT d0 nn hσ hV (a := 0) (by omega) rb (by show 0 < 2 ^ 60 - kR ((TL[b]?).getD .non); omega)
  omega
/-- .. above 1, others at least 1: above 1, if there is one -/
theorem above_one {z : Int} {rows : List Th} (ok : MOk z rows) (h : ∀ t, t < rows.length → 2 ^ 60 ≤ kR ((rows[t]?).getD .non)) {b : Nat} (rb : Rc rows 0 b) (hb : 2 ^ 60 < kR ((rows[b]?).getD .non)) (hp : PosR rows) :
    dk (eqr rows) rows.length < Yk (eqr rows) rows.length 0 rows.length := by
  have n1 := ok.n1
  have d0 := hp _ (Nat.le_refl _)
  have hV : ∀ t, t < rows.length → sumN rows.length (fun j => eqr rows t j * (Yk (eqr rows) rows.length j rows.length - dk (eqr rows) rows.length)) = dk (eqr rows) rows.length * (kR ((rows[t]?).getD .non) - 2 ^ 60) := fun t ht => by
    have e1 := ones_sum ok ht
    have e2 := the_sol (r := eqr rows) (n := rows.length) (fun m hm => by have := hp m hm; omega) ht
    unfold Lf at e2
    rw [end_col] at e2
    rw [sumN_congr (g := fun j => (eqr rows t j * Yk (eqr rows) rows.length j rows.length) + (- dk (eqr rows) rows.length) * (eqr rows t j * 1)) fun j _ => by grind, sumN_add, sumN_mul, e1]
    unfold kR
    grind
  have hσ : ∀ t, t < rows.length → 0 ≤ (fun t => kR ((rows[t]?).getD .non) - 2 ^ 60) t := fun t ht => by have := h t ht; show 0 ≤ kR ((rows[t]?).getD .non) - 2 ^ 60; omega
  have nn := sol_sure hp d0 hσ hV
  have := sol_above ok d0 nn hσ hV (a := 0) (by omega) rb (by show 0 < kR ((rows[b]?).getD .non) - 2 ^ 60; omega)
  omega
end KL
end
section
set_option maxHeartbeats 1000000
namespace KL
open PySem PySem.Spec PyProof.Rows L2
/-! ### sums over the states that are come to, not trimmed -/
/-- what a step tells of values, times 2 ** 60 -/
def vT (X : Nat → Int) : Th → Int
  | .tup [.int m, .int s] => 2 ^ (60 - m).toNat * X s.toNat
  | _ => 0
def vS (X : Nat → Int) (ss : List Th) : Int := (ss.map (vT X)).sum
theorem vS_nil (X : Nat → Int) : vS X [] = 0 := rfl
theorem vS_cons (X : Nat → Int) (st : Th) (ss : List Th) : vS X (st :: ss) = vT X st + vS X ss := by unfold vS; rw [List.map_cons, List.sum_cons]
theorem vS_app (X : Nat → Int) : ∀ (ss ts : List Th), vS X (ss ++ ts) = vS X ss + vS X ts
  | [], ts => by rw [List.nil_append, vS_nil]; omega
  | s :: ss, ts => by rw [List.cons_append, vS_cons, vS_cons, vS_app X ss ts]; omega
theorem vS_none (X : Nat → Int) : ∀ n : Nat, vS X (List.replicate n .non) = 0
  | 0 => rfl
  | n + 1 => by rw [List.replicate_succ, vS_cons, vS_none X n]; rfl
theorem vS_mul (X : Nat → Int) (c : Int) : ∀ ss : List Th, vS (fun s => c * X s) ss = c * vS X ss
  | [] => by rw [vS_nil, vS_nil, Int.mul_zero]
  | st :: ss => by
    have e : vT (fun s => c * X s) st = c * vT X st := by
      unfold vT
      split
      · grind
      · rw [Int.mul_zero]
    rw [vS_cons, vS_cons, vS_mul X c ss, e, Int.mul_add]
theorem vT_sum {n : Nat} {st : Th} (h : StepIs (n : Int) st) (X : Nat → Int) : sumN n (fun j => shT j st * X j) = vT X st := by
  rcases h with rfl | ⟨m, s, rfl, m0, m1, s0, s1⟩
  · exact sumN_zero fun j hj => Int.zero_mul _
  · obtain ⟨t, rfl⟩ : ∃ t : Nat, s = (t : Int) := ⟨s.toNat, by omega⟩
    have g : ∀ j : Nat, shT j (.tup [.int m, .int (t : Int)]) = if (t : Int) = (j : Int) then (2 : Int) ^ (60 - m).toNat else 0 := fun _ => rfl
    rw [sumN_one (q := t) (by omega) fun j hj ne => by rw [g, if_neg (by omega), Int.zero_mul], g, if_pos rfl]
    rfl
theorem vS_sum {n : Nat} (X : Nat → Int) : ∀ {ss : List Th}, (∀ st ∈ ss, StepIs (n : Int) st) → sumN n (fun j => shS ss j * X j) = vS X ss
  | [], _ => sumN_zero fun j hj => Int.zero_mul _
  | st :: ss, h => by
    have e : ∀ j, shS (st :: ss) j = shT j st + shS ss j := fun j => by unfold shS; rw [List.map_cons, List.sum_cons]
    rw [sumN_congr (g := fun j => shT j st * X j + shS ss j * X j) fun j _ => by rw [e j, Int.add_mul], sumN_add, vT_sum (h st List.mem_cons_self), vS_sum X fun x m => h x (List.mem_cons_of_mem _ m), vS_cons]
theorem vS_congr {X Y : Nat → Int} : ∀ {ss : List Th}, (∀ m s, Th.tup [.int m, .int s] ∈ ss → X s.toNat = Y s.toNat) → vS X ss = vS Y ss
  | [], _ => rfl
  | st :: ss, h => by
    rw [vS_cons, vS_cons, vS_congr fun m s k => h m s (List.mem_cons_of_mem _ k)]
    congr 1
    unfold vT
    split
    · rw [h _ _ List.mem_cons_self]
    · rfl
theorem vS_ge {X : Nat → Int} : ∀ {ss : List Th}, (∀ m s, Th.tup [.int m, .int s] ∈ ss → 0 ≤ X s.toNat) → 0 ≤ vS X ss ∧ ∀ m s, Th.tup [.int m, .int s] ∈ ss → 2 ^ (60 - m).toNat * X s.toNat ≤ vS X ss
  | [], _ => ⟨Int.le_refl _, fun _ _ h => nomatch h⟩
  | st :: ss, h => by
    obtain ⟨g1, g2⟩ := vS_ge fun m s k => h m s (List.mem_cons_of_mem _ k)
    have t0 : 0 ≤ vT X st := by
      unfold vT
      split
      · exact Int.mul_nonneg (Int.le_of_lt (pow_pos60 _)) (h _ _ List.mem_cons_self)
      · exact Int.le_refl _
    rw [vS_cons]
    refine ⟨by omega, fun m s k => ?_⟩
    rcases List.mem_cons.mp k with e | k
    · rw [← e]
      show _ ≤ 2 ^ (60 - m).toNat * X s.toNat + vS X ss
      omega
    · have := g2 m s k
      omega
abbrev rowT (rows : List Th) (s : Nat) : Th := (rows[s]?).getD .non
abbrev stS (rows : List Th) (s : Nat) : List Th := stepsOf (rowT rows s)
abbrev enS (rows : List Th) (s : Nat) : Th := endOf (rowT rows s)
/-- values that are at least (le: just) what the rows tell, from nought on -/
structure RSup (rows : List Th) (X : Nat → Int) (D : Int) : Prop where
  D0 : 0 < D
  nn : ∀ s, Rc rows 0 s → 0 ≤ X s
  dead : ∀ s, Rc rows 0 s → ¬ lvE rows s → X s = 0
  eq : ∀ s, Rc rows 0 s → vS X (stS rows s) + D * shE (enS rows s) ≤ 2 ^ 60 * X s
structure RSol (rows : List Th) (X : Nat → Int) (D : Int) : Prop where
  D0 : 0 < D
  nn : ∀ s, Rc rows 0 s → 0 ≤ X s
  dead : ∀ s, Rc rows 0 s → ¬ lvE rows s → X s = 0
  eq : ∀ s, Rc rows 0 s → vS X (stS rows s) + D * shE (enS rows s) = 2 ^ 60 * X s
theorem RSol.sup {rows : List Th} {X : Nat → Int} {D : Int} (h : RSol rows X D) : RSup rows X D := ⟨h.D0, h.nn, h.dead, fun s r => by have := h.eq s r; omega⟩
section
variable {z : Int} {rows : List Th} {X : Nat → Int} {D : Int}
theorem st_nx (ok : MOk z rows) {s : Nat} {m t : Int} (h : Th.tup [.int m, .int t] ∈ stS rows s) : t.toNat ∈ ((nxs rows)[s]?).getD [] := by
  obtain ⟨l, hl, e⟩ := List.getElem_of_mem h
  refine step_nx (l := l) (m := m) (s' := t) ?_
  unfold stepAt
  show ((stS rows s)[l]?).getD .non = _
  rw [List.getElem?_eq_getElem hl, e]; rfl
theorem nx_st (ok : MOk z rows) {s t : Nat} (h : t ∈ ((nxs rows)[s]?).getD []) : ∃ m : Int, Th.tup [.int m, .int (t : Int)] ∈ stS rows s := by
  obtain ⟨l, m, _, e⟩ := nx_step ok h
  unfold stepAt at e
  refine ⟨m, ?_⟩
  cases eg : (stS rows s)[l]? with
  | none => rw [show (stepsOf ((rows[s]?).getD .non))[l]? = none from eg] at e; cases e
  | some x =>
    rw [show (stepsOf ((rows[s]?).getD .non))[l]? = some x from eg] at e
    have e' : x = .tup [.int m, .int (t : Int)] := e
    rw [← e']
    exact List.mem_of_getElem? eg
theorem st_is (ok : MOk z rows) {s : Nat} : ∀ st ∈ stS rows s, StepIs (rows.length : Int) st := fun st m => by
  obtain ⟨l, hl, e⟩ := List.getElem_of_mem m
  have := stepAt_is ok s l
  unfold stepAt at this
  rw [show (stepsOf ((rows[s]?).getD .non))[l]? = some st by rw [← e]; exact List.getElem?_eq_getElem hl] at this
  exact this
theorem RSup.pos (h : RSup rows X D) (ok : MOk z rows) {s : Nat} (r : Rc rows 0 s) (l : lvE rows s) : 0 < X s := by
  obtain ⟨e, re, he⟩ := l
  have n1 := ok.n1
  have nnS : ∀ s, Rc rows 0 s → ∀ m t, Th.tup [.int m, .int t] ∈ stS rows s → 0 ≤ X t.toNat := fun s r m t k => h.nn _ (.step r (st_nx ok k))
  have key : ∀ b, Rc rows s b → 0 < X b → 0 < X s := fun b r2 => by
    induction r2 with
    | base m => rw [List.mem_singleton.mp m]; exact fun h => h
    | step r0 m ih =>
      rename_i i t
      intro h2
      have ri : Rc rows 0 i := RS.trans1 r r0
      obtain ⟨mo, hm⟩ := nx_st ok m
      have g := (vS_ge (nnS i ri)).2 _ _ hm
      rw [Int.toNat_natCast] at g
      have := Int.mul_pos (pow_pos60 mo) h2
      have eq := h.eq i ri
      have := Int.mul_nonneg (Int.le_of_lt h.D0) (shE_nn (enS rows i))
      exact ih (by omega)
  refine key e re ?_
  have rE : Rc rows 0 e := RS.trans1 r re
  have eq := h.eq e rE
  have g := (vS_ge (nnS e rE)).1
  have hE : 0 < shE (enS rows e) := by
    obtain ⟨x, ss, er, c1, _⟩ := ok.row (ok.rc_lt n1 rE)
    unfold isEnd at he
    rw [er] at he
    show 0 < shE (endOf ((rows[e]?).getD .non))
    rw [er]
    rcases c1 with rfl | ⟨i, rfl, _⟩
    · exact absurd rfl he
    · exact pow_pos60 i
  have := Int.mul_pos h.D0 hE
  omega
theorem ren_vS {ks : List Nat} {ss : List Th} {n : Nat} (h : ∀ st ∈ ss, StepIs (n : Int) st) (hX : ∀ m s, Th.tup [.int m, .int s] ∈ ss → s.toNat ∉ ks → X s.toNat = 0) : vS (fun j => X ((ks[j]?).getD 0)) (ss.map (renS ks)) = vS X ss := by
  induction ss with
  | nil => rfl
  | cons st ss ih =>
    rw [List.map_cons, vS_cons, vS_cons, ih (fun x m => h x (List.mem_cons_of_mem _ m)) fun m s k => hX m s (List.mem_cons_of_mem _ k)]
    congr 1
    rcases h st List.mem_cons_self with rfl | ⟨m, s, rfl, m0, m1, s0, s1⟩
    · rfl
    · by_cases hk : s.toNat ∈ ks
      · rw [renS, if_pos hk]
        show 2 ^ (60 - m).toNat * X ((ks[((ks.idxOf s.toNat : Nat) : Int).toNat]?).getD 0) = 2 ^ (60 - m).toNat * X s.toNat
        have hl := List.idxOf_lt_length_of_mem hk
        rw [Int.toNat_natCast, List.getElem?_eq_getElem hl, List.getElem_idxOf]; rfl
      · rw [renS, if_neg hk]
        show (0 : Int) = 2 ^ (60 - m).toNat * X s.toNat
        rw [hX m s List.mem_cons_self hk, Int.mul_zero]
theorem trim_row (h : keep rows ≠ []) {j s : Nat} (e : (keep rows)[j]? = some s) : rowT (trimL z rows) j = renT (keep rows) (rowT rows s) := by
  show ((trimL z rows)[j]?).getD .non = _
  rw [trimL_get h e]; rfl
/-- left sides of the trimmed equations -/
theorem trim_left (ok : MOk z rows) (hk : keep rows ≠ []) (hX : ∀ s, Rc rows 0 s → ¬ lvE rows s → X s = 0) {j s : Nat} (e : (keep rows)[j]? = some s) :
    sumN (trimL z rows).length (fun i => eqr (trimL z rows) j i * X (((keep rows)[i]?).getD 0)) = 2 ^ 60 * X s - vS X (stS rows s) := by
  have hj : j < (trimL z rows).length := by rw [trimL_len hk]; exact (List.getElem?_eq_some_iff.mp e).1
  have mk := mem_keep.mp (List.mem_of_getElem? e)
  rw [eq_split hj]
  have e1 := vS_sum (n := (trimL z rows).length) (fun i => X (((keep rows)[i]?).getD 0)) (ss := stS (trimL z rows) j) (st_is (trimL_ok ok))
  rw [show sumN (trimL z rows).length (fun i => shS (stepsOf (((trimL z rows)[j]?).getD .non)) i * X (((keep rows)[i]?).getD 0)) = vS (fun i => X (((keep rows)[i]?).getD 0)) (stS (trimL z rows) j) from e1]
  have e2 : stS (trimL z rows) j = (stS rows s).map (renS (keep rows)) := by
    show stepsOf (rowT (trimL z rows) j) = _
    rw [trim_row hk e]; rfl
  rw [e2, ren_vS (n := rows.length) (st_is ok) fun m t k nk => hX _ (.step mk.2.1 (st_nx ok k)) fun l => nk (mem_keep.mpr ⟨ok.rc_lt ok.n1 (.step mk.2.1 (st_nx ok k)), .step mk.2.1 (st_nx ok k), l⟩), e]
  rfl
theorem trim_end (hk : keep rows ≠ []) {j s : Nat} (e : (keep rows)[j]? = some s) : eqr (trimL z rows) j (trimL z rows).length = shE (enS rows s) := by
  rw [end_col]
  show shE (endOf (rowT (trimL z rows) j)) = _
  rw [trim_row hk e]; rfl
theorem keep_at {j : Nat} (hk : keep rows ≠ []) (hj : j < (trimL z rows).length) : ∃ s, (keep rows)[j]? = some s ∧ Rc rows 0 s ∧ lvE rows s := by
  rw [trimL_len hk] at hj
  refine ⟨_, List.getElem?_eq_getElem hj, ?_⟩
  exact (mem_keep.mp (List.getElem_mem hj)).2
theorem bare_trim (hk : keep rows = []) : trimL z rows = [bareRow z] := by unfold trimL; rw [if_pos hk]
theorem bare_Y (z : Int) : Yk (eqr [bareRow z]) [bareRow z].length 0 [bareRow z].length = 0 := by
  have hp := bare_pos z
  have ts := the_sol (r := eqr [bareRow z]) (n := 1) (fun m hm => by have := hp m hm; omega) (t := 0) (by decide)
  unfold Lf at ts
  rw [show sumN 1 (fun j => eqr [bareRow z] 0 j * Yk (eqr [bareRow z]) 1 j 1) = 0 + eqr [bareRow z] 0 0 * Yk (eqr [bareRow z]) 1 0 1 from rfl] at ts
  have e1 : eqr [bareRow z] 0 1 = 0 := rfl
  have e0 : eqr [bareRow z] 0 0 = 2 ^ 60 := by
    show (2 : Int) ^ 60 - shS (List.replicate z.toNat .non) 0 = 2 ^ 60
    rw [shS_none]; omega
  rw [e1, e0] at ts
  show Yk (eqr [bareRow z]) 1 0 1 = 0
  omega
theorem no_keep (n1 : 1 ≤ rows.length) (hk : keep rows = []) : ¬ lvE rows 0 := fun l => by
  have := keep_zero n1 l
  rw [hk] at this; cases this
/-- values at least as great: the sums are bounded -/
theorem RSup.bounded (h : RSup rows X D) (ok : MOk z rows) : PosR (trimL z rows) := by
  by_cases hk : keep rows = []
  · rw [bare_trim hk]; exact bare_pos z
  have lv := eqr_live (trimL_ok ok) (trim_lvE ok hk)
  have left : ∀ j, j < (trimL z rows).length → D * shE (endOf (((trimL z rows)[j]?).getD .non)) ≤ sumN (trimL z rows).length (fun i => eqr (trimL z rows) j i * X (((keep rows)[i]?).getD 0)) := fun j hj => by
    obtain ⟨s, e, r, l⟩ := keep_at hk hj
    rw [trim_left ok hk h.dead e, ← end_col, trim_end hk e]
    have := h.eq s r
    omega
  have sE := fun j : Nat => shE_nn (endOf (((trimL z rows)[j]?).getD .non))
  have sg := withR_sg (c := fun j => sumN (trimL z rows).length (fun i => eqr (trimL z rows) j i * X (((keep rows)[i]?).getD 0))) (eqr_sg (trimL z rows)) fun j hj => by
    have := left j hj
    have := Int.mul_nonneg (Int.le_of_lt h.D0) (sE j)
    omega
  have pp := piv_pos (n := (trimL z rows).length) (r := withR (trimL z rows).length (eqr (trimL z rows)) fun j => sumN (trimL z rows).length (fun i => eqr (trimL z rows) j i * X (((keep rows)[i]?).getD 0))) (X := fun i => X (((keep rows)[i]?).getD 0)) (D := 1) sg ?_ ?_ (by decide) (fun q hq => ?_) (fun t ht => ?_) (trimL z rows).length (Nat.le_refl _)
  · intro m hm
    have := pp m hm
    rwa [withR_dk hm] at this
  · intro U hU h1 h2
    refine lv U hU (fun t ht ut j hj nj => ?_) fun t ht ut => ?_
    · have := h1 t ht ut j hj nj
      unfold withR at this
      rwa [if_neg (by omega)] at this
    · have := h2 t ht ut
      unfold withR at this
      rw [if_pos rfl] at this
      have h3 : sumN (trimL z rows).length (fun i => eqr (trimL z rows) t i * X (((keep rows)[i]?).getD 0)) = 0 := this
      have g := left t ht
      rw [h3] at g
      rw [end_col]
      have := sE t
      refine Classical.byContradiction fun c => ?_
      have := Int.mul_pos h.D0 (show 0 < shE (endOf (((trimL z rows)[t]?).getD .non)) by omega)
      omega
  · intro i t hi ht
    unfold withR
    rw [if_neg (by omega)]
    exact eqr_id (trimL z rows) i t hi ht
  · obtain ⟨s, e, r, l⟩ := keep_at hk hq
    rw [e]
    exact h.nn s r
  · rw [withR_Lf]; omega
/-- just what the rows tell: the total is X 0 / D -/
theorem RSol.total (h : RSol rows X D) (ok : MOk z rows) : PosR (trimL z rows) ∧ dk (eqr (trimL z rows)) (trimL z rows).length * X 0 = D * Yk (eqr (trimL z rows)) (trimL z rows).length 0 (trimL z rows).length := by
  refine ⟨h.sup.bounded ok, ?_⟩
  by_cases hk : keep rows = []
  · rw [bare_trim hk, bare_Y, h.dead 0 (Rc.rfl' rows 0) (no_keep ok.n1 hk), Int.mul_zero, Int.mul_zero]
  have n1 := (trimL_ok ok).n1
  have so : ∀ j, j < (trimL z rows).length → Lf (trimL z rows).length (fun i => X (((keep rows)[i]?).getD 0)) D (eqr (trimL z rows) j) = 0 := fun j hj => by
    obtain ⟨s, e, r, l⟩ := keep_at hk hj
    unfold Lf
    rw [trim_left ok hk h.dead e, trim_end hk e]
    have := h.eq s r
    omega
  have := one_sol so (q := 0) (by omega)
  rw [keep_first ok.n1 (keep_ne ok.n1 hk)] at this
  exact this
/-- bounded sums: there are such values -/
theorem RSol.of (ok : MOk z rows) (hp : PosR (trimL z rows)) : ∃ X, RSol rows X (dk (eqr (trimL z rows)) (trimL z rows).length) ∧ X 0 = Yk (eqr (trimL z rows)) (trimL z rows).length 0 (trimL z rows).length := by
  have d0 := hp _ (Nat.le_refl _)
  have deadEq : ∀ {Y : Nat → Int}, (∀ s, ¬ s ∈ keep rows → Y s = 0) → ∀ s, Rc rows 0 s → ¬ lvE rows s → vS Y (stS rows s) + dk (eqr (trimL z rows)) (trimL z rows).length * shE (enS rows s) = 2 ^ 60 * Y s := fun {Y} hY s r nl => by
    have e1 : vS Y (stS rows s) = vS (fun _ => 0) (stS rows s) := vS_congr fun m t k => hY _ fun mk => nl (lvE_head (st_nx ok k) (mem_keep.mp mk).2.2)
    have e2 : vS (fun _ => 0) (stS rows s) = 0 := by
      have := vS_mul (fun _ => 0) 0 (stS rows s)
      simpa using this
    have e3 : shE (enS rows s) = 0 := by
      refine Classical.byContradiction fun c => nl (isEnd_lvE ?_)
      intro h
      exact c (by show shE (endOf ((rows[s]?).getD .non)) = 0; rw [h]; rfl)
    rw [e1, e2, e3, hY s fun mk => nl (mem_keep.mp mk).2.2]
    omega
  by_cases hk : keep rows = []
  · refine ⟨fun _ => 0, ⟨d0, fun _ _ => Int.le_refl _, fun _ _ _ => rfl, fun s r => deadEq (Y := fun _ => 0) (fun _ _ => rfl) s r fun l => ?_⟩, by rw [bare_trim hk, bare_Y]⟩
    have : s ∈ keep rows := mem_keep.mpr ⟨ok.rc_lt ok.n1 r, r, l⟩
    rw [hk] at this; cases this
  have gX : ∀ s j, (keep rows)[j]? = some s → (if s ∈ keep rows then Yk (eqr (trimL z rows)) (trimL z rows).length ((keep rows).idxOf s) (trimL z rows).length else 0) = Yk (eqr (trimL z rows)) (trimL z rows).length j (trimL z rows).length := fun s j e => by rw [if_pos (List.mem_of_getElem? e), keep_idx e]
  have gD : ∀ s, ¬ s ∈ keep rows → (if s ∈ keep rows then Yk (eqr (trimL z rows)) (trimL z rows).length ((keep rows).idxOf s) (trimL z rows).length else 0) = 0 := fun s h => if_neg h
  have g0 := gX 0 0 (keep_first ok.n1 (keep_ne ok.n1 hk))
  generalize hX : (fun s => if s ∈ keep rows then Yk (eqr (trimL z rows)) (trimL z rows).length ((keep rows).idxOf s) (trimL z rows).length else 0) = X at *
  have xs : ∀ s, (if s ∈ keep rows then Yk (eqr (trimL z rows)) (trimL z rows).length ((keep rows).idxOf s) (trimL z rows).length else 0) = X s := fun s => congrFun hX s
  simp only [xs] at gX gD g0
  have dead : ∀ s, Rc rows 0 s → ¬ lvE rows s → X s = 0 := fun s r nl => gD s fun mk => nl (mem_keep.mp mk).2.2
  refine ⟨X, ⟨d0, fun s r => ?_, dead, fun s r => ?_⟩, g0⟩
  · by_cases l : lvE rows s
    · have mk : s ∈ keep rows := mem_keep.mpr ⟨ok.rc_lt ok.n1 r, r, l⟩
      obtain ⟨j, hj, e⟩ := List.getElem_of_mem mk
      have e' : (keep rows)[j]? = some s := by rw [← e]; exact List.getElem?_eq_getElem hj
      rw [gX s j e']
      exact wos_nn hp (by rw [trimL_len hk]; exact hj)
    · rw [dead s r l]; exact Int.le_refl _
  · by_cases l : lvE rows s
    · have mk : s ∈ keep rows := mem_keep.mpr ⟨ok.rc_lt ok.n1 r, r, l⟩
      obtain ⟨j, hj, e⟩ := List.getElem_of_mem mk
      have e' : (keep rows)[j]? = some s := by rw [← e]; exact List.getElem?_eq_getElem hj
      have ts := the_sol (r := eqr (trimL z rows)) (n := (trimL z rows).length) (fun m hm => by have := hp m hm; omega) (t := j) (by rw [trimL_len hk]; exact hj)
      unfold Lf at ts
      rw [trim_end hk e', sumN_congr (g := fun i => eqr (trimL z rows) j i * X (((keep rows)[i]?).getD 0)) fun i hi => by
        obtain ⟨s2, e2, _⟩ := keep_at hk hi
        rw [e2]
        show _ = _ * X s2
        rw [gX s2 i e2], trim_left ok hk dead e'] at ts
      omega
    · exact deadEq gD s r l
end
theorem frT_eq {a b c e : Int} (hb : 0 < b) (he : 0 < e) (x : e * a = b * c) : frT a b = frT c e := by
  obtain ⟨h1, h2, _⟩ := low_eq (a := a) (b := b) (c := c) (e := e) (s := ((Nat.gcd c.natAbs e.natAbs : Nat) : Int)) hb (by omega) x (by rw [if_neg (by omega)])
  show Th.tup [.int _, .int _] = Th.tup [.int _, .int _]
  unfold lowT
  rw [h1, h2]
end KL
end
section
set_option maxHeartbeats 1000000
namespace KL
open PySem PySem.Spec PyProof.Rows L2
/-! ### a machine that covers another one -/
inductive SC (B : Nat → Prop) (π : Nat → Nat) : Th → Th → Prop
  | non : SC B π .non .non
  | tup (m : Int) (t : Nat) : B t → SC B π (.tup [.int m, .int (π t : Nat)]) (.tup [.int m, .int (t : Nat)])
inductive SCs (B : Nat → Prop) (π : Nat → Nat) : List Th → List Th → Prop
  | nil : SCs B π [] []
  | cons {a b : Th} {as bs : List Th} : SC B π a b → SCs B π as bs → SCs B π (a :: as) (b :: bs)
theorem SCs.mem2 {B : Nat → Prop} {π : Nat → Nat} {as bs : List Th} (h : SCs B π as bs) {b : Th} (m : b ∈ bs) : ∃ a ∈ as, SC B π a b := by
  induction h with
  | nil => cases m
  | cons h t ih =>
    rcases List.mem_cons.mp m with rfl | m
    · exact ⟨_, List.mem_cons_self, h⟩
    · obtain ⟨a, ma, k⟩ := ih m
      exact ⟨a, List.mem_cons_of_mem _ ma, k⟩
theorem SCs.mem1 {B : Nat → Prop} {π : Nat → Nat} {as bs : List Th} (h : SCs B π as bs) {a : Th} (m : a ∈ as) : ∃ b ∈ bs, SC B π a b := by
  induction h with
  | nil => cases m
  | cons h t ih =>
    rcases List.mem_cons.mp m with rfl | m
    · exact ⟨_, List.mem_cons_self, h⟩
    · obtain ⟨b, mb, k⟩ := ih m
      exact ⟨b, List.mem_cons_of_mem _ mb, k⟩
theorem SCs.vS {B : Nat → Prop} {π : Nat → Nat} {as bs : List Th} (h : SCs B π as bs) {X Y : Nat → Int} (hXY : ∀ t, B t → Y t = X (π t)) : vS Y bs = vS X as := by
  induction h with
  | nil => rfl
  | cons h t ih =>
    rw [vS_cons, vS_cons, ih]
    congr 1
    cases h with
    | non => rfl
    | tup m t hb =>
      show 2 ^ (60 - m).toNat * Y ((t : Int)).toNat = 2 ^ (60 - m).toNat * X ((π t : Nat) : Int).toNat
      rw [Int.toNat_natCast, Int.toNat_natCast, hXY t hb]
structure Cov (rows1 rows2 : List Th) (B : Nat → Prop) (π : Nat → Nat) (ex : Nat → List Th) : Prop where
  lt : ∀ u, B u → u < rows2.length ∧ π u < rows1.length
  st : ∀ u, B u → ∃ ws, stS rows2 u = ws ++ ex u ∧ SCs B π (stS rows1 (π u)) ws
section
variable {z z2 : Int} {rows1 rows2 : List Th} {B : Nat → Prop} {π : Nat → Nat} {ex : Nat → List Th}
theorem Cov.vS (c : Cov rows1 rows2 B π ex) {u : Nat} (hu : B u) {X Y : Nat → Int} (hXY : ∀ t, B t → Y t = X (π t)) : vS Y (stS rows2 u) = KL.vS X (stS rows1 (π u)) + KL.vS Y (ex u) := by
  obtain ⟨ws, e, h⟩ := c.st u hu
  rw [e, vS_app, h.vS hXY]
theorem Cov.up (c : Cov rows1 rows2 B π ex) (ok1 : MOk z rows1) (ok2 : MOk z2 rows2) {u t : Nat} (hu : B u) (h : t ∈ ((nxs rows1)[π u]?).getD []) : ∃ t2, t2 ∈ ((nxs rows2)[u]?).getD [] ∧ B t2 ∧ π t2 = t := by
  obtain ⟨m, hm⟩ := nx_st ok1 h
  obtain ⟨ws, e, hs⟩ := c.st u hu
  obtain ⟨b, mb, k⟩ := hs.mem1 hm
  generalize ha : Th.tup [.int m, .int (t : Int)] = a at k
  cases k with
  | non => cases ha
  | tup m' t2 hb =>
    injection ha with ha; injection ha with _ ha; injection ha with ha _; injection ha with ha
    refine ⟨t2, ?_, hb, by omega⟩
    have : Th.tup [.int m', .int (t2 : Int)] ∈ stS rows2 u := by rw [e]; exact List.mem_append_left _ mb
    have := st_nx ok2 this
    rwa [Int.toNat_natCast] at this
theorem Cov.down (c : Cov rows1 rows2 B π ex) (ok1 : MOk z rows1) (ok2 : MOk z2 rows2) {u t : Nat} (hu : B u) (h : t ∈ ((nxs rows2)[u]?).getD []) : (B t ∧ π t ∈ ((nxs rows1)[π u]?).getD []) ∨ ∃ m : Int, Th.tup [.int m, .int (t : Int)] ∈ ex u := by
  obtain ⟨m, hm⟩ := nx_st ok2 h
  obtain ⟨ws, e, hs⟩ := c.st u hu
  rw [e] at hm
  rcases List.mem_append.mp hm with hm | hm
  · obtain ⟨a, ma, k⟩ := hs.mem2 hm
    generalize hb : Th.tup [.int m, .int (t : Int)] = b at k
    cases k with
    | non => cases hb
    | tup m' t2 hb2 =>
      injection hb with hb; injection hb with _ hb; injection hb with hb _; injection hb with hb
      have : t = t2 := by omega
      subst this
      have := st_nx ok1 ma
      rw [Int.toNat_natCast] at this
      exact .inl ⟨hb2, this⟩
  · exact .inr ⟨m, hm⟩
theorem Cov.rc_up (c : Cov rows1 rows2 B π ex) (ok1 : MOk z rows1) (ok2 : MOk z2 rows2) {u t : Nat} (hu : B u) (r : Rc rows1 (π u) t) : ∃ t2, Rc rows2 u t2 ∧ B t2 ∧ π t2 = t := by
  induction r with
  | base m => exact ⟨u, Rc.rfl' _ _, hu, (List.mem_singleton.mp m).symm⟩
  | step r m ih =>
    obtain ⟨i2, r2, b2, rfl⟩ := ih
    obtain ⟨t2, m2, bt, e⟩ := c.up ok1 ok2 b2 m
    exact ⟨t2, .step r2 m2, bt, e⟩
/-- steps beyond the cover lead nowhere -/
def NoEx (B : Nat → Prop) (ex : Nat → List Th) : Prop := ∀ u, B u → ∀ st ∈ ex u, st = .non
theorem NoEx.vS (n : NoEx B ex) {u : Nat} (hu : B u) (Y : Nat → Int) : vS Y (ex u) = 0 := by
  have : ∀ ss : List Th, (∀ st ∈ ss, st = .non) → KL.vS Y ss = 0 := fun ss h => by
    induction ss with
    | nil => rfl
    | cons a r ih =>
      rw [vS_cons, ih fun x m => h x (List.mem_cons_of_mem _ m), h a List.mem_cons_self]; rfl
  exact this _ (n u hu)
theorem Cov.rc_down (c : Cov rows1 rows2 B π ex) (n : NoEx B ex) (ok1 : MOk z rows1) (ok2 : MOk z2 rows2) {u t : Nat} (hu : B u) (r : Rc rows2 u t) : B t ∧ Rc rows1 (π u) (π t) := by
  induction r with
  | base m => rw [List.mem_singleton.mp m]; exact ⟨hu, Rc.rfl' _ _⟩
  | step r m ih =>
    rcases c.down ok1 ok2 ih.1 m with ⟨b, k⟩ | ⟨mm, h⟩
    · exact ⟨b, .step ih.2 k⟩
    · cases n _ ih.1 _ h
theorem Cov.lvE (c : Cov rows1 rows2 B π ex) (n : NoEx B ex) (en : ∀ u, B u → enS rows2 u = enS rows1 (π u)) (ok1 : MOk z rows1) (ok2 : MOk z2 rows2) {u : Nat} (hu : B u) : lvE rows2 u ↔ lvE rows1 (π u) := by
  constructor
  · rintro ⟨e, r, he⟩
    obtain ⟨be, re⟩ := c.rc_down n ok1 ok2 hu r
    refine ⟨π e, re, ?_⟩
    have := en e be
    unfold isEnd at he ⊢
    exact fun h => he (this.trans h)
  · rintro ⟨e, r, he⟩
    obtain ⟨e2, r2, b2, rfl⟩ := c.rc_up ok1 ok2 hu r
    refine ⟨e2, r2, ?_⟩
    have := en e2 b2
    unfold isEnd at he ⊢
    exact fun h => he (this.symm.trans h)
theorem least_of {S : Nat → Prop} {f : Nat → Int} (nn : ∀ u, S u → 0 ≤ f u) : ∀ {u : Nat}, S u → ∃ v, S v ∧ ∀ w, S w → f v ≤ f w := by
  have : ∀ (k : Nat) (u : Nat), S u → (f u).toNat = k → ∃ v, S v ∧ ∀ w, S w → f v ≤ f w := fun k => by
    induction k using Nat.strongRecOn with
    | _ k ih =>
      intro u hu e
      by_cases h : ∃ w, S w ∧ f w < f u
      · obtain ⟨w, hw, lt⟩ := h
        have := nn w hw
        have := nn u hu
        exact ih (f w).toNat (by omega) w hw rfl
      · exact ⟨u, hu, fun w hw => Classical.byContradiction fun c => h ⟨w, hw, by omega⟩⟩
  exact fun {u} hu => this _ u hu rfl
/-- what bounds the covering machine bounds the covered one -/
theorem Cov.back (c : Cov rows1 rows2 B π ex) (n : NoEx B ex) (en : ∀ u, B u → enS rows2 u = enS rows1 (π u)) (ok1 : MOk z rows1) (ok2 : MOk z2 rows2) {u0 : Nat} (b0 : B u0) (p0 : π u0 = 0) (r0 : Rc rows2 0 u0) {X : Nat → Int} {D : Int} (h : RSup rows2 X D) : PosR (trimL z rows1) := by
  have ex1 : ∀ s, Rc rows1 0 s → ∃ v, (B v ∧ Rc rows2 0 v ∧ π v = s) ∧ ∀ w, (B w ∧ Rc rows2 0 w ∧ π w = s) → X v ≤ X w := fun s r => by
    rw [← p0] at r
    obtain ⟨t2, r2, b2, e⟩ := c.rc_up ok1 ok2 b0 r
    exact least_of (S := fun v => B v ∧ Rc rows2 0 v ∧ π v = s) (fun u hu => h.nn u hu.2.1) (u := t2) ⟨b2, RS.trans1 r0 r2, e⟩
  have ex2 : ∀ s, ∃ v, Rc rows1 0 s → (B v ∧ Rc rows2 0 v ∧ π v = s) ∧ ∀ w, (B w ∧ Rc rows2 0 w ∧ π w = s) → X v ≤ X w := fun s => by
    by_cases r : Rc rows1 0 s
    · obtain ⟨v, h⟩ := ex1 s r
      exact ⟨v, fun _ => h⟩
    · exact ⟨0, fun r2 => absurd r2 r⟩
  obtain ⟨V, hV⟩ : ∃ V : Nat → Nat, ∀ s, Rc rows1 0 s → (B (V s) ∧ Rc rows2 0 (V s) ∧ π (V s) = s) ∧ ∀ w, (B w ∧ Rc rows2 0 w ∧ π w = s) → X (V s) ≤ X w := ⟨fun s => Classical.choose (ex2 s), fun s => Classical.choose_spec (ex2 s)⟩
  refine RSup.bounded (X := fun s => X (V s)) (D := D) ⟨h.D0, fun s r => h.nn _ (hV s r).1.2.1, fun s r nl => ?_, fun s r => ?_⟩ ok1
  · obtain ⟨⟨b, r2, e⟩, _⟩ := hV s r
    exact h.dead _ r2 fun l => nl (by rw [← e]; exact (c.lvE n en ok1 ok2 b).mp l)
  · obtain ⟨⟨b, r2, e⟩, _⟩ := hV s r
    have q := h.eq _ r2
    have v1 := c.vS b (X := fun s => X (V s)) (Y := fun t => X (V (π t))) (fun _ _ => rfl)
    rw [n.vS b, Int.add_zero, e] at v1
    have mono : KL.vS (fun t => X (V (π t))) (stS rows2 (V s)) ≤ KL.vS X (stS rows2 (V s)) := by
      have : ∀ ss : List Th, (∀ m t, Th.tup [.int m, .int t] ∈ ss → X (V (π t.toNat)) ≤ X t.toNat) → KL.vS (fun t => X (V (π t))) ss ≤ KL.vS X ss := fun ss g => by
        induction ss with
        | nil => exact Int.le_refl _
        | cons a as ih =>
          rw [vS_cons, vS_cons]
          have i1 := ih fun m t k => g m t (List.mem_cons_of_mem _ k)
          have i2 : vT (fun t => X (V (π t))) a ≤ vT X a := by
            unfold vT
            split
            · exact Int.mul_le_mul_of_nonneg_left (g _ _ List.mem_cons_self) (Int.le_of_lt (pow_pos60 _))
            · exact Int.le_refl _
          omega
      refine this _ fun m t k => ?_
      have mn := st_nx ok2 k
      have rt : Rc rows2 0 t.toNat := .step r2 mn
      rcases c.down ok1 ok2 b mn with ⟨bt, k2⟩ | ⟨mm, hx⟩
      · have r1 : Rc rows1 0 (π t.toNat) := .step (by rw [e]; exact r) k2
        exact (hV _ r1).2 _ ⟨bt, rt, rfl⟩
      · cases n _ b _ hx
    have ee := en _ b
    rw [e] at ee
    rw [ee] at q
    show KL.vS (fun s => X (V s)) (stS rows1 s) + D * shE (enS rows1 s) ≤ 2 ^ 60 * X (V s)
    omega
theorem RSol.scale {rows : List Th} {X : Nat → Int} {D c : Int} (h : RSol rows X D) (hc : 0 < c) : RSol rows (fun s => c * X s) (c * D) :=
  ⟨Int.mul_pos hc h.D0, fun s r => Int.mul_nonneg (by omega) (h.nn s r), fun s r nl => by show c * X s = 0; rw [h.dead s r nl, Int.mul_zero], fun s r => by
    rw [vS_mul]
    have := h.eq s r
    show c * vS X (stS rows s) + c * D * shE (enS rows s) = 2 ^ 60 * (c * X s)
    grind⟩
/-- values of the covered machine are such of the covering one -/
theorem Cov.lift (c : Cov rows1 rows2 B π ex) (n : NoEx B ex) (en : ∀ u, B u → enS rows2 u = enS rows1 (π u)) (ok1 : MOk z rows1) (ok2 : MOk z2 rows2) {X Y : Nat → Int} {D : Int} (h : RSol rows1 X D) (hY : ∀ u, B u → Y u = X (π u)) {u : Nat} (hu : B u) (r : Rc rows1 0 (π u)) :
    0 ≤ Y u ∧ (¬ KL.lvE rows2 u → Y u = 0) ∧ KL.vS Y (stS rows2 u) + D * shE (enS rows2 u) = 2 ^ 60 * Y u := by
  refine ⟨by rw [hY u hu]; exact h.nn _ r, fun nl => ?_, ?_⟩
  · rw [hY u hu]
    exact h.dead _ r fun l => nl ((c.lvE n en ok1 ok2 hu).mpr l)
  · rw [c.vS hu hY, n.vS hu, Int.add_zero, en u hu, hY u hu]
    exact h.eq _ r
end
end KL
end
section
set_option maxHeartbeats 1000000
namespace KL
open PySem PySem.Spec PyProof.Rows L2
/-- the total is a / b -/
structure TotF (z : Int) (rows : List Th) (a b : Int) : Prop where
  p : PosR (trimL z rows)
  b0 : 0 < b
  e : dk (eqr (trimL z rows)) (trimL z rows).length * a = b * Yk (eqr (trimL z rows)) (trimL z rows).length 0 (trimL z rows).length
noncomputable abbrev totT (z : Int) (rows : List Th) : Th := frT (Yk (eqr (trimL z rows)) (trimL z rows).length 0 (trimL z rows).length) (dk (eqr (trimL z rows)) (trimL z rows).length)
theorem TotF.tot {z : Int} {rows : List Th} {a b : Int} (h : TotF z rows a b) : totT z rows = frT a b := by
  refine frT_eq (h.p _ (Nat.le_refl _)) h.b0 ?_
  rw [← h.e]
theorem RSol.totF {z : Int} {rows : List Th} {X : Nat → Int} {D : Int} (h : RSol rows X D) (ok : MOk z rows) : TotF z rows (X 0) D := ⟨(h.total ok).1, h.D0, (h.total ok).2⟩
theorem low_val {a b : Int} (hb : 0 < b) : (b / ((Nat.gcd a.natAbs b.natAbs : Nat) : Int)) * a = b * lowT a b := by
  obtain ⟨p1, p2, _⟩ := low_parts (a := a) hb
  generalize b / ((Nat.gcd a.natAbs b.natAbs : Nat) : Int) = B at *
  generalize ((Nat.gcd a.natAbs b.natAbs : Nat) : Int) = G at *
  rw [← p2]
  conv => lhs; rw [← p1]
  grind
/-- the total, in lowest terms, of values that solve the rows -/
theorem RSol.low {z : Int} {rows : List Th} {X : Nat → Int} {D : Int} (h : RSol rows X D) (ok : MOk z rows) : botT (trimL z rows) * X 0 = D * topT (trimL z rows) := by
  have t := h.totF ok
  have e := t.e
  have d0 := t.p _ (Nat.le_refl _)
  obtain ⟨p1, p2, p3⟩ := low_parts (a := Yk (eqr (trimL z rows)) (trimL z rows).length 0 (trimL z rows).length) d0
  have g0 : 0 < ((Nat.gcd (Yk (eqr (trimL z rows)) (trimL z rows).length 0 (trimL z rows).length).natAbs (dk (eqr (trimL z rows)) (trimL z rows).length).natAbs : Nat) : Int) := by
    have : 0 < Nat.gcd (Yk (eqr (trimL z rows)) (trimL z rows).length 0 (trimL z rows).length).natAbs (dk (eqr (trimL z rows)) (trimL z rows).length).natAbs := Nat.gcd_pos_of_pos_right _ (by omega)
    omega
  unfold topT botT
  generalize lowT (Yk (eqr (trimL z rows)) (trimL z rows).length 0 (trimL z rows).length) (dk (eqr (trimL z rows)) (trimL z rows).length) = A at *
  generalize dk (eqr (trimL z rows)) (trimL z rows).length / ((Nat.gcd (Yk (eqr (trimL z rows)) (trimL z rows).length 0 (trimL z rows).length).natAbs (dk (eqr (trimL z rows)) (trimL z rows).length).natAbs : Nat) : Int) = B at *
  generalize ((Nat.gcd (Yk (eqr (trimL z rows)) (trimL z rows).length 0 (trimL z rows).length).natAbs (dk (eqr (trimL z rows)) (trimL z rows).length).natAbs : Nat) : Int) = G at *
  rw [← p1, ← p2] at e
  have : G * (B * X 0) = G * (D * A) := by grind
  exact Int.eq_of_mul_eq_mul_left (by omega) this
/-- no texts: nought -/
theorem none_tot {z : Int} {rows : List Th} (ok : MOk z rows) (nl : ¬ lvE rows 0) : TotF z rows 0 1 := by
  have hk : keep rows = [] := Classical.byContradiction fun n => nl (keep_ne ok.n1 n)
  refine ⟨by rw [bare_trim hk]; exact bare_pos z, by decide, ?_⟩
  rw [bare_trim hk, bare_Y]
  omega
theorem some_top {z : Int} {rows : List Th} (ok : MOk z rows) (l : lvE rows 0) (hp : PosR (trimL z rows)) : 0 < topT (trimL z rows) := by
  obtain ⟨X, h, e⟩ := RSol.of ok hp
  have p := h.sup.pos ok (Rc.rfl' rows 0) l
  have q := h.low ok
  obtain ⟨_, b0⟩ := botT_small (trimL_ok ok) hp
  refine Classical.byContradiction fun c => ?_
  have h1 := Int.mul_pos b0 p
  have h2 : dk (eqr (trimL z rows)) (trimL z rows).length * topT (trimL z rows) ≤ 0 := Int.mul_nonpos_of_nonneg_of_nonpos (by have := h.D0; omega) (by omega)
  omega
/-! ### ends one more -/
def incE : Th → Th
  | .int e => .int (e + 1)
  | t => t
def latR (r : Th) : Th := .tup [incE (endOf r), .tup (stepsOf r)]
def latL (rows : List Th) : List Th := rows.map latR
theorem lat_nxs (rows : List Th) : nxs (latL rows) = nxs rows := by
  show ((rows.map latR).map nxr) = rows.map nxr
  rw [List.map_map]; rfl
theorem lat_row (rows : List Th) (s : Nat) : stS (latL rows) s = stS rows s ∧ enS (latL rows) s = incE (enS rows s) := by
  show stepsOf (((rows.map latR)[s]?).getD .non) = _ ∧ endOf (((rows.map latR)[s]?).getD .non) = _
  rw [List.getElem?_map]
  show _ = stepsOf ((rows[s]?).getD .non) ∧ _ = incE (endOf ((rows[s]?).getD .non))
  cases rows[s]? <;> exact ⟨rfl, rfl⟩
theorem lat_lvE (rows : List Th) (s : Nat) : lvE (latL rows) s ↔ lvE rows s := by
  have : ∀ e, isEnd (latL rows) e ↔ isEnd rows e := fun e => by
    unfold isEnd
    show ¬ enS (latL rows) e = .non ↔ ¬ enS rows e = .non
    rw [(lat_row rows e).2]
    cases enS rows e <;> exact ⟨fun h e => h (by cases e; try rfl), fun h e => h (by cases e; try rfl)⟩
  unfold lvE Rc
  rw [lat_nxs]
  exact exists_congr fun e => and_congr Iff.rfl (this e)
theorem lat_shE {rows : List Th} (h : EndsLe 59 rows) (s : Nat) : shE (enS rows s) = 2 * shE (enS (latL rows) s) := by
  rw [(lat_row rows s).2]
  have : ∀ e, enS rows s = .int e → e ≤ 59 := fun e he => by
    show e ≤ 59
    cases er : rows[s]? with
    | none =>
      have : endOf ((rows[s]?).getD .non) = .int e := he
      rw [er] at this; cases this
    | some r =>
      have : endOf ((rows[s]?).getD .non) = .int e := he
      rw [er] at this
      exact h r (List.mem_of_getElem? er) e this
  generalize enS rows s = t at *
  cases t with
  | int e =>
    have := this e rfl
    show (2 : Int) ^ (60 - e).toNat = 2 * 2 ^ (60 - (e + 1)).toNat
    rw [show (60 - e).toNat = (60 - (e + 1)).toNat + 1 by omega, Int.pow_succ, Int.mul_comm]
  | _ => rfl
theorem lat_sol {rows : List Th} {X : Nat → Int} {D : Int} (hE : EndsLe 59 rows) (h : RSol rows X D) : RSol (latL rows) X (2 * D) := by
  have rc : ∀ {s}, Rc (latL rows) 0 s → Rc rows 0 s := fun r => by unfold Rc at r ⊢; rwa [lat_nxs] at r
  refine ⟨by have := h.D0; omega, fun s r => h.nn s (rc r), fun s r nl => h.dead s (rc r) fun l => nl ((lat_lvE rows s).mpr l), fun s r => ?_⟩
  have := h.eq s (rc r)
  rw [lat_shE hE] at this
  rw [(lat_row rows s).1, ← this]
  grind
theorem lat_back {rows : List Th} {X : Nat → Int} {D : Int} (hE : EndsLe 59 rows) (h : RSol (latL rows) X D) : RSol rows (fun s => 2 * X s) D := by
  have rc : ∀ {s}, Rc rows 0 s → Rc (latL rows) 0 s := fun r => by unfold Rc at r ⊢; rwa [lat_nxs]
  refine ⟨h.D0, fun s r => by have := h.nn s (rc r); omega, fun s r nl => by have := h.dead s (rc r) fun l => nl ((lat_lvE rows s).mp l); omega, fun s r => ?_⟩
  have := h.eq s (rc r)
  rw [lat_shE hE, vS_mul]
  rw [(lat_row rows s).1] at this
  grind
/-! ### blocks -/
def mvT (k : Int) : Th → Th
  | .tup [.int m, .int s] => .tup [.int m, .int (s + k)]
  | t => t
def blkR (k : Int) (r : Th) : Th := .tup [endOf r, .tup ((stepsOf r).map (mvT k) ++ List.replicate (8 - (stepsOf r).length) .non)]
theorem mv_SCs {n o : Nat} {ss : List Th} (h : ∀ st ∈ ss, StepIs (n : Int) st) : SCs (fun u => o ≤ u ∧ u < o + n) (fun u => u - o) ss (ss.map (mvT (o : Int))) := by
  induction ss with
  | nil => exact .nil
  | cons st ss ih =>
    refine .cons ?_ (ih fun x m => h x (List.mem_cons_of_mem _ m))
    rcases h st List.mem_cons_self with rfl | ⟨m, s, rfl, m0, m1, s0, s1⟩
    · exact .non
    · obtain ⟨t, rfl⟩ : ∃ t : Nat, s = (t : Int) := ⟨s.toNat, by omega⟩
      show SC _ _ _ (.tup [.int m, .int ((t : Int) + (o : Int))])
      have := SC.tup (B := fun u => o ≤ u ∧ u < o + n) (π := fun u => u - o) m (t + o) ⟨by omega, by omega⟩
      rw [show ((t + o : Nat) : Int) = (t : Int) + (o : Int) by omega, show ((t + o - o : Nat) : Int) = (t : Int) by omega] at this
      exact this
theorem blk_cov {z : Int} {rows1 rows2 : List Th} {o : Nat} (ok1 : MOk z rows1) (hl : o + rows1.length ≤ rows2.length) (h : ∀ s, s < rows1.length → rowT rows2 (o + s) = blkR (o : Int) (rowT rows1 s)) :
    Cov rows1 rows2 (fun u => o ≤ u ∧ u < o + rows1.length) (fun u => u - o) (fun u => List.replicate (8 - (stS rows1 (u - o)).length) .non) ∧ (∀ u, (o ≤ u ∧ u < o + rows1.length) → enS rows2 u = enS rows1 (u - o)) := by
  have hr : ∀ u, (o ≤ u ∧ u < o + rows1.length) → rowT rows2 u = blkR (o : Int) (rowT rows1 (u - o)) := fun u hu => by
    have := h (u - o) (by omega)
    rwa [show o + (u - o) = u by omega] at this
  refine ⟨⟨fun u hu => ⟨by omega, by show u - o < _; omega⟩, fun u hu => ⟨(stS rows1 (u - o)).map (mvT (o : Int)), ?_, mv_SCs (st_is ok1)⟩⟩, fun u hu => ?_⟩
  · show stepsOf (rowT rows2 u) = _
    rw [hr u hu]; rfl
  · show endOf (rowT rows2 u) = _
    rw [hr u hu]; rfl
theorem rep_NoEx {B : Nat → Prop} (f : Nat → Nat) : NoEx B fun u => List.replicate (f u) .non := fun u _ st m => (List.mem_replicate.mp m).2
end KL
end
section
set_option maxHeartbeats 1000000
namespace KL
open PySem PySem.Spec PyProof.Rows L2
theorem mv_is {n1 o : Nat} {N : Int} {st : Th} (h : StepIs (n1 : Int) st) (hN : (o : Int) + n1 ≤ N) : StepIs N (mvT (o : Int) st) := by
  rcases h with rfl | ⟨m, s, rfl, m0, m1, s0, s1⟩
  · exact .inl rfl
  · exact .inr ⟨m, s + (o : Int), rfl, m0, m1, by omega, by omega⟩
theorem blk_row {z : Int} {n1 o : Nat} {N : Int} {r : Th} (hr : rowB z (n1 : Int) r = true) (z8 : z ≤ 8) (hN : (o : Int) + n1 ≤ N) : rowB 8 N (blkR (o : Int) r) = true := by
  obtain ⟨e, ss, rfl, h1, h2, h3⟩ := rowB_is hr
  refine rowB_of h1 ?_ fun st m => ?_
  · show (((ss.map (mvT (o : Int)) ++ List.replicate (8 - ss.length) Th.non).length : Nat) : Int) = 8
    rw [List.length_append, List.length_map, List.length_replicate]
    omega
  · rcases List.mem_append.mp m with m | m
    · obtain ⟨x, mx, rfl⟩ := List.mem_map.mp m
      exact mv_is (h3 x mx) hN
    · rw [(List.mem_replicate.mp m).2]; exact .inl rfl
theorem rowT_of {rows : List Th} {s : Nat} {r : Th} (h : rows[s]? = some r) : rowT rows s = r := by unfold rowT; rw [h]; rfl
theorem rowT_some {rows : List Th} {s : Nat} (h : s < rows.length) : rows[s]? = some (rowT rows s) := by unfold rowT; rw [List.getElem?_eq_getElem h]; rfl
/-! ### two under a first letter -/
def undR (m0 m1 : Int) (n1 : Nat) : Th := .tup [.non, .tup (.tup [.int m0, .int 1] :: .tup [.int m1, .int (1 + (n1 : Int))] :: List.replicate 6 .non)]
def undL (m0 m1 : Int) (rows1 rows2 : List Th) : List Th := undR m0 m1 rows1.length :: (rows1.map (blkR (1 : Nat)) ++ rows2.map (blkR ((1 + rows1.length : Nat) : Int)))
section
variable {z z' m0 m1 : Int} {rows1 rows2 : List Th}
theorem und_len : (undL m0 m1 rows1 rows2).length = 1 + rows1.length + rows2.length := by unfold undL; rw [List.length_cons, List.length_append, List.length_map, List.length_map]; omega
theorem und_ok (ok1 : MOk z rows1) (ok2 : MOk z' rows2) (h : rows1.length + rows2.length ≤ 29) (a0 : 0 ≤ m0) (a1 : m0 ≤ 60) (b0 : 0 ≤ m1) (b1 : m1 ≤ 60) : MOk 8 (undL m0 m1 rows1 rows2) := by
  have k1 := ok1.n1
  have k2 := ok2.n1
  refine ⟨by decide, by decide, by rw [und_len]; omega, by rw [und_len]; omega, fun r m => ?_⟩
  rw [und_len]
  unfold undL at m
  rcases List.mem_cons.mp m with rfl | m
  · refine rowB_of (.inl rfl) (by rw [List.length_cons, List.length_cons, List.length_replicate]; rfl) fun st m => ?_
    rcases List.mem_cons.mp m with rfl | m
    · exact .inr ⟨m0, 1, rfl, a0, a1, by decide, by omega⟩
    · rcases List.mem_cons.mp m with rfl | m
      · exact .inr ⟨m1, _, rfl, b0, b1, by omega, by omega⟩
      · rw [(List.mem_replicate.mp m).2]; exact .inl rfl
  · rcases List.mem_append.mp m with m | m
    · obtain ⟨x, mx, rfl⟩ := List.mem_map.mp m
      exact blk_row (ok1.r x mx) ok1.z8 (by omega)
    · obtain ⟨x, mx, rfl⟩ := List.mem_map.mp m
      exact blk_row (ok2.r x mx) ok2.z8 (by omega)
theorem und_1 {s : Nat} (hs : s < rows1.length) : rowT (undL m0 m1 rows1 rows2) (1 + s) = blkR ((1 : Nat) : Int) (rowT rows1 s) := by
  refine rowT_of ?_
  unfold undL
  rw [show 1 + s = s + 1 by omega, List.getElem?_cons_succ, List.getElem?_append_left (by rw [List.length_map]; exact hs), List.getElem?_map, rowT_some hs]; rfl
theorem und_2 {s : Nat} (hs : s < rows2.length) : rowT (undL m0 m1 rows1 rows2) (1 + rows1.length + s) = blkR ((1 + rows1.length : Nat) : Int) (rowT rows2 s) := by
  refine rowT_of ?_
  unfold undL
  rw [show 1 + rows1.length + s = (rows1.length + s) + 1 by omega, List.getElem?_cons_succ, List.getElem?_append_right (by rw [List.length_map]; omega), List.length_map, show rows1.length + s - rows1.length = s by omega, List.getElem?_map, rowT_some hs]; rfl
theorem und_nx : ((nxs (undL m0 m1 rows1 rows2))[0]?).getD [] = [1, 1 + rows1.length] := by
  rw [nxs_getD]
  show (stepsOf (undR m0 m1 rows1.length)).filterMap tgt = _
  unfold undR
  show (Th.tup [.int m0, .int 1] :: .tup [.int m1, .int (1 + (rows1.length : Int))] :: List.replicate 6 .non).filterMap tgt = _
  rw [List.filterMap_cons_some (f := tgt) (b := (1 : Nat)) rfl, List.filterMap_cons_some (f := tgt) (b := (1 + rows1.length : Nat)) (by show some ((1 + (rows1.length : Int)).toNat) = some (1 + rows1.length); rw [show (1 + (rows1.length : Int)).toNat = 1 + rows1.length by omega])]
  rfl
theorem und_reach (ok1 : MOk z rows1) (ok2 : MOk z' rows2) (ok : MOk 8 (undL m0 m1 rows1 rows2)) {u : Nat} (r : Rc (undL m0 m1 rows1 rows2) 0 u) : u = 0 ∨ ((1 ≤ u ∧ u < 1 + rows1.length) ∧ Rc rows1 0 (u - 1)) ∨ ((1 + rows1.length ≤ u ∧ u < 1 + rows1.length + rows2.length) ∧ Rc rows2 0 (u - (1 + rows1.length))) := by
  have c1 := (blk_cov (o := 1) (rows2 := undL m0 m1 rows1 rows2) ok1 (by rw [und_len]; omega) fun s hs => und_1 hs).1
  have c2 := (blk_cov (o := 1 + rows1.length) (rows2 := undL m0 m1 rows1 rows2) ok2 (by rw [und_len]; omega) fun s hs => und_2 hs).1
  have k1 := ok1.n1
  have k2 := ok2.n1
  induction r with
  | base m => exact .inl (List.mem_singleton.mp m)
  | step r m ih =>
    rename_i i t
    rcases ih with rfl | ⟨b, ri⟩ | ⟨b, ri⟩
    · rw [und_nx] at m
      rcases List.mem_cons.mp m with rfl | m
      · exact .inr (.inl ⟨⟨by omega, by omega⟩, Rc.rfl' _ _⟩)
      · rw [List.mem_singleton.mp m]
        exact .inr (.inr ⟨⟨by omega, by omega⟩, by rw [Nat.sub_self]; exact Rc.rfl' _ _⟩)
    · rcases c1.down ok1 ok b m with ⟨bt, k⟩ | ⟨mm, hx⟩
      · exact .inr (.inl ⟨bt, .step ri k⟩)
      · cases (List.mem_replicate.mp hx).2
    · rcases c2.down ok2 ok b m with ⟨bt, k⟩ | ⟨mm, hx⟩
      · exact .inr (.inr ⟨bt, .step ri k⟩)
      · cases (List.mem_replicate.mp hx).2
theorem und_sol (ok1 : MOk z rows1) (ok2 : MOk z' rows2) (ok : MOk 8 (undL m0 m1 rows1 rows2)) {X1 X2 : Nat → Int} {D : Int} (h1 : RSol rows1 X1 D) (h2 : RSol rows2 X2 D) :
    TotF 8 (undL m0 m1 rows1 rows2) (2 ^ (60 - m0).toNat * X1 0 + 2 ^ (60 - m1).toNat * X2 0) (2 ^ 60 * D) := by
  obtain ⟨c1, e1⟩ := blk_cov (o := 1) (rows2 := undL m0 m1 rows1 rows2) ok1 (by rw [und_len]; omega) fun s hs => und_1 hs
  obtain ⟨c2, e2⟩ := blk_cov (o := 1 + rows1.length) (rows2 := undL m0 m1 rows1 rows2) ok2 (by rw [und_len]; omega) fun s hs => und_2 hs
  have k1 := ok1.n1
  have k2 := ok2.n1
  have s1 := h1.scale (c := 2 ^ 60) (by decide)
  have s2 := h2.scale (c := 2 ^ 60) (by decide)
  have f0 : (if (0 : Nat) = 0 then 2 ^ (60 - m0).toNat * X1 0 + 2 ^ (60 - m1).toNat * X2 0 else if 0 < 1 + rows1.length then 2 ^ 60 * X1 (0 - 1) else 2 ^ 60 * X2 (0 - (1 + rows1.length))) = 2 ^ (60 - m0).toNat * X1 0 + 2 ^ (60 - m1).toNat * X2 0 := if_pos rfl
  have f1 : ∀ u, (1 ≤ u ∧ u < 1 + rows1.length) → (if u = 0 then 2 ^ (60 - m0).toNat * X1 0 + 2 ^ (60 - m1).toNat * X2 0 else if u < 1 + rows1.length then 2 ^ 60 * X1 (u - 1) else 2 ^ 60 * X2 (u - (1 + rows1.length))) = 2 ^ 60 * X1 (u - 1) := fun u hu => by rw [if_neg (by omega), if_pos hu.2]
  have f2 : ∀ u, (1 + rows1.length ≤ u ∧ u < 1 + rows1.length + rows2.length) → (if u = 0 then 2 ^ (60 - m0).toNat * X1 0 + 2 ^ (60 - m1).toNat * X2 0 else if u < 1 + rows1.length then 2 ^ 60 * X1 (u - 1) else 2 ^ 60 * X2 (u - (1 + rows1.length))) = 2 ^ 60 * X2 (u - (1 + rows1.length)) := fun u hu => by rw [if_neg (by omega), if_neg (by omega)]
  generalize hY : (fun u : Nat => if u = 0 then 2 ^ (60 - m0).toNat * X1 0 + 2 ^ (60 - m1).toNat * X2 0 else if u < 1 + rows1.length then 2 ^ 60 * X1 (u - 1) else 2 ^ 60 * X2 (u - (1 + rows1.length))) = Y at *
  have yy : ∀ u, (if u = 0 then 2 ^ (60 - m0).toNat * X1 0 + 2 ^ (60 - m1).toNat * X2 0 else if u < 1 + rows1.length then 2 ^ 60 * X1 (u - 1) else 2 ^ 60 * X2 (u - (1 + rows1.length))) = Y u := fun u => congrFun hY u
  simp only [yy] at f0 f1 f2
  have f0 : Y 0 = 2 ^ (60 - m0).toNat * X1 0 + 2 ^ (60 - m1).toNat * X2 0 := by rw [← yy 0]; exact if_pos rfl
  have p0 := pow_pos60 m0
  have p1 := pow_pos60 m1
  have mem1 : (1 : Nat) ∈ ((nxs (undL m0 m1 rows1 rows2))[0]?).getD [] := by rw [und_nx]; exact List.mem_cons_self
  have mem2 : 1 + rows1.length ∈ ((nxs (undL m0 m1 rows1 rows2))[0]?).getD [] := by rw [und_nx]; exact List.mem_cons_of_mem _ List.mem_cons_self
  have sol : RSol (undL m0 m1 rows1 rows2) Y (2 ^ 60 * D) := by
    have all : ∀ u, Rc (undL m0 m1 rows1 rows2) 0 u → 0 ≤ Y u ∧ (¬ lvE (undL m0 m1 rows1 rows2) u → Y u = 0) ∧ vS Y (stS (undL m0 m1 rows1 rows2) u) + 2 ^ 60 * D * shE (enS (undL m0 m1 rows1 rows2) u) = 2 ^ 60 * Y u := fun u r => by
      rcases und_reach ok1 ok2 ok r with rfl | ⟨b, ri⟩ | ⟨b, ri⟩
      · refine ⟨?_, fun nl => ?_, ?_⟩
        · rw [f0]
          have := Int.mul_nonneg (Int.le_of_lt p0) (h1.nn 0 (Rc.rfl' _ _))
          have := Int.mul_nonneg (Int.le_of_lt p1) (h2.nn 0 (Rc.rfl' _ _))
          omega
        · have d1 := h1.dead 0 (Rc.rfl' _ _) fun l => nl (lvE_head mem1 ((c1.lvE (rep_NoEx _) e1 ok1 ok (u := 1) ⟨by omega, by omega⟩).mpr l))
          have d2 := h2.dead 0 (Rc.rfl' _ _) fun l => nl (lvE_head mem2 ((c2.lvE (rep_NoEx _) e2 ok2 ok (u := 1 + rows1.length) ⟨by omega, by omega⟩).mpr (by rw [Nat.sub_self]; exact l)))
          rw [f0, d1, d2, Int.mul_zero, Int.mul_zero]; rfl
        · have y1 := f1 1 ⟨by omega, by omega⟩
          have y2 := f2 (1 + rows1.length) ⟨by omega, by omega⟩
          rw [Nat.sub_self] at y1 y2
          show vS Y (.tup [.int m0, .int 1] :: .tup [.int m1, .int (1 + (rows1.length : Int))] :: List.replicate 6 .non) + 2 ^ 60 * D * 0 = _
          rw [vS_cons, vS_cons, vS_none]
          show 2 ^ (60 - m0).toNat * Y 1 + (2 ^ (60 - m1).toNat * Y ((1 + (rows1.length : Int)).toNat) + 0) + _ = _
          rw [show (1 + (rows1.length : Int)).toNat = 1 + rows1.length by omega, y1, y2, f0]
          grind
      · exact c1.lift (rep_NoEx _) e1 ok1 ok s1 f1 b ri
      · exact c2.lift (rep_NoEx _) e2 ok2 ok s2 f2 b ri
    exact ⟨s1.D0, fun u r => (all u r).1, fun u r => (all u r).2.1, fun u r => (all u r).2.2⟩
  have := sol.totF ok
  rwa [f0] at this
theorem und_back (ok1 : MOk z rows1) (ok2 : MOk z' rows2) (ok : MOk 8 (undL m0 m1 rows1 rows2)) (hp : PosR (trimL 8 (undL m0 m1 rows1 rows2))) : PosR (trimL z rows1) ∧ PosR (trimL z' rows2) := by
  obtain ⟨c1, e1⟩ := blk_cov (o := 1) (rows2 := undL m0 m1 rows1 rows2) ok1 (by rw [und_len]; omega) fun s hs => und_1 hs
  obtain ⟨c2, e2⟩ := blk_cov (o := 1 + rows1.length) (rows2 := undL m0 m1 rows1 rows2) ok2 (by rw [und_len]; omega) fun s hs => und_2 hs
  have k1 := ok1.n1
  have k2 := ok2.n1
  obtain ⟨X, h, _⟩ := RSol.of ok hp
  have r1 : Rc (undL m0 m1 rows1 rows2) 0 1 := .step (Rc.rfl' _ _) (by rw [und_nx]; exact List.mem_cons_self)
  have r2 : Rc (undL m0 m1 rows1 rows2) 0 (1 + rows1.length) := .step (Rc.rfl' _ _) (by rw [und_nx]; exact List.mem_cons_of_mem _ List.mem_cons_self)
  exact ⟨c1.back (rep_NoEx _) e1 ok1 ok (u0 := 1) ⟨by omega, by omega⟩ rfl r1 h.sup, c2.back (rep_NoEx _) e2 ok2 ok (u0 := 1 + rows1.length) ⟨by omega, by omega⟩ (Nat.sub_self _) r2 h.sup⟩
end
/-! ### states twice -/
structure TwiceOf (rows rows2 : List Th) : Prop where
  len : rows2.length = 2 * rows.length + 1
  st : ∀ u, u < 2 * rows.length → ∃ ss, rowT rows2 u = .tup [enS rows (u % rows.length), .tup ss] ∧ SCs (fun u => u < 2 * rows.length) (fun u => u % rows.length) (stS rows (u % rows.length)) ss
section
variable {z : Int} {rows rows2 : List Th}
theorem TwiceOf.cov (t : TwiceOf rows rows2) (ok : MOk z rows) : Cov rows rows2 (fun u => u < 2 * rows.length) (fun u => u % rows.length) (fun _ => []) ∧ NoEx (fun u => u < 2 * rows.length) (fun _ => ([] : List Th)) ∧ (∀ u, u < 2 * rows.length → enS rows2 u = enS rows (u % rows.length)) := by
  have n1 := ok.n1
  refine ⟨⟨fun u hu => ⟨by rw [t.len]; omega, Nat.mod_lt _ (by omega)⟩, fun u hu => ?_⟩, (fun u _ st m => nomatch m), fun u hu => ?_⟩
  · obtain ⟨ss, e, h⟩ := t.st u hu
    refine ⟨ss, ?_, h⟩
    show stepsOf (rowT rows2 u) = _
    rw [e, List.append_nil]; rfl
  · obtain ⟨ss, e, h⟩ := t.st u hu
    show endOf (rowT rows2 u) = _
    rw [e]; rfl
theorem twi_sol (t : TwiceOf rows rows2) (ok : MOk z rows) (ok2 : MOk z rows2) {X : Nat → Int} {D : Int} (h : RSol rows X D) : TotF z rows2 (X 0) D := by
  obtain ⟨c, n, en⟩ := t.cov ok
  have n1 := ok.n1
  have all := fun u (r : Rc rows2 0 u) => by
    obtain ⟨b, r1⟩ := c.rc_down n ok ok2 (show 0 < 2 * rows.length by omega) r
    rw [Nat.zero_mod] at r1
    exact c.lift n en ok ok2 h (Y := fun u => X (u % rows.length)) (fun _ _ => rfl) b r1
  have := RSol.totF (X := fun u => X (u % rows.length)) ⟨h.D0, fun u r => (all u r).1, fun u r => (all u r).2.1, fun u r => (all u r).2.2⟩ ok2
  rwa [Nat.zero_mod] at this
theorem twi_back (t : TwiceOf rows rows2) (ok : MOk z rows) (ok2 : MOk z rows2) (hp : PosR (trimL z rows2)) : PosR (trimL z rows) := by
  obtain ⟨c, n, en⟩ := t.cov ok
  have n1 := ok.n1
  obtain ⟨X, h, _⟩ := RSol.of ok2 hp
  exact c.back n en ok ok2 (u0 := 0) (show 0 < 2 * rows.length by omega) (Nat.zero_mod _) (Rc.rfl' _ _) h.sup
end
end KL
/-! ### one behind another -/
namespace KL
open PySem PySem.Spec PyProof.Rows L2
def markT (n1 : Nat) : Th → Th
  | .int e => .tup [.int e, .int (n1 : Nat)]
  | _ => .non
def mkR (n1 : Nat) (r : Th) : Th := .tup [.non, .tup (stepsOf r ++ (List.replicate (7 - (stepsOf r).length) .non ++ [markT n1 (endOf r)]))]
def behL (rows1 rows2 : List Th) : List Th := rows1.map (mkR rows1.length) ++ rows2.map (blkR (rows1.length : Nat))
section
variable {z z' : Int} {rows1 rows2 : List Th}
theorem beh_len : (behL rows1 rows2).length = rows1.length + rows2.length := by unfold behL; rw [List.length_append, List.length_map, List.length_map]
theorem beh_ok (ok1 : MOk z rows1) (ok2 : MOk z' rows2) (h : rows1.length + rows2.length ≤ 30) (z7 : z ≤ 7) : MOk 8 (behL rows1 rows2) := by
  have k1 := ok1.n1
  have k2 := ok2.n1
  refine ⟨by decide, by decide, by rw [beh_len]; omega, by rw [beh_len]; omega, fun r m => ?_⟩
  rw [beh_len]
  unfold behL at m
  rcases List.mem_append.mp m with m | m
  · obtain ⟨x, mx, rfl⟩ := List.mem_map.mp m
    obtain ⟨e, ss, rfl, h1, h2, h3⟩ := rowB_is (ok1.r x mx)
    refine rowB_of (.inl rfl) ?_ fun st m => ?_
    · show (((ss ++ (List.replicate (7 - ss.length) Th.non ++ [markT rows1.length e])).length : Nat) : Int) = 8
      rw [List.length_append, List.length_append, List.length_replicate]
      show ((ss.length + (7 - ss.length + 1) : Nat) : Int) = 8
      omega
    · rcases List.mem_append.mp m with m | m
      · exact (h3 st m).up (by omega)
      · rcases List.mem_append.mp m with m | m
        · rw [(List.mem_replicate.mp m).2]; exact .inl rfl
        · rw [List.mem_singleton.mp m]
          rcases h1 with rfl | ⟨i, rfl, i1, i2⟩
          · exact .inl rfl
          · exact .inr ⟨i, (rows1.length : Nat), rfl, by omega, by omega, by omega, by omega⟩
  · obtain ⟨x, mx, rfl⟩ := List.mem_map.mp m
    exact blk_row (ok2.r x mx) ok2.z8 (by omega)
theorem beh_1 {s : Nat} (hs : s < rows1.length) : rowT (behL rows1 rows2) s = mkR rows1.length (rowT rows1 s) := by
  refine rowT_of ?_
  unfold behL
  rw [List.getElem?_append_left (by rw [List.length_map]; exact hs), List.getElem?_map, rowT_some hs]; rfl
theorem beh_2 {s : Nat} (hs : s < rows2.length) : rowT (behL rows1 rows2) (rows1.length + s) = blkR ((rows1.length : Nat) : Int) (rowT rows2 s) := by
  refine rowT_of ?_
  unfold behL
  rw [List.getElem?_append_right (by rw [List.length_map]; omega), List.length_map, show rows1.length + s - rows1.length = s by omega, List.getElem?_map, rowT_some hs]; rfl
theorem id_SCs {n : Nat} {ss : List Th} (h : ∀ st ∈ ss, StepIs (n : Int) st) : SCs (fun u => u < n) (fun u => u) ss ss := by
  induction ss with
  | nil => exact .nil
  | cons st ss ih =>
    refine .cons ?_ (ih fun x m => h x (List.mem_cons_of_mem _ m))
    rcases h st List.mem_cons_self with rfl | ⟨m, s, rfl, m0, m1, s0, s1⟩
    · exact .non
    · obtain ⟨t, rfl⟩ : ∃ t : Nat, s = (t : Int) := ⟨s.toNat, by omega⟩
      exact SC.tup (B := fun u => u < n) (π := fun u => u) m t (show t < n by omega)
theorem beh_cov1 (ok1 : MOk z rows1) : Cov rows1 (behL rows1 rows2) (fun u => u < rows1.length) (fun u => u) (fun u => List.replicate (7 - (stS rows1 u).length) .non ++ [markT rows1.length (enS rows1 u)]) ∧ ∀ u, u < rows1.length → enS (behL rows1 rows2) u = .non := by
  refine ⟨⟨fun u hu => ⟨by rw [beh_len]; omega, hu⟩, fun u hu => ⟨stS rows1 u, ?_, id_SCs (st_is ok1)⟩⟩, fun u hu => ?_⟩
  · show stepsOf (rowT (behL rows1 rows2) u) = _
    rw [beh_1 hu]; rfl
  · show endOf (rowT (behL rows1 rows2) u) = _
    rw [beh_1 hu]; rfl
theorem mark_of {n1 : Nat} {e : Th} {m t : Int} (h : Th.tup [.int m, .int t] = markT n1 e) : t = (n1 : Int) ∧ e = .int m := by
  cases e with
  | int i =>
    injection h with h; injection h with h1 h; injection h with h _; injection h with h
    injection h1 with h1
    exact ⟨h, by rw [h1]⟩
  | _ => cases h
theorem isEnd_int (ok : MOk z rows1) {u : Nat} (hu : u < rows1.length) (h : isEnd rows1 u) : ∃ i, enS rows1 u = .int i := by
  obtain ⟨e, ss, er, c1, _⟩ := ok.row hu
  unfold isEnd at h
  rw [er] at h
  rcases c1 with rfl | ⟨i, rfl, _⟩
  · exact absurd rfl h
  · exact ⟨i, by show endOf ((rows1[u]?).getD .non) = _; rw [er]; rfl⟩
theorem beh_reach (ok1 : MOk z rows1) (ok2 : MOk z' rows2) (ok : MOk 8 (behL rows1 rows2)) {a u : Nat} (ha : a < rows1.length) (r : Rc (behL rows1 rows2) a u) : (u < rows1.length ∧ Rc rows1 a u) ∨ ((rows1.length ≤ u ∧ u < rows1.length + rows2.length) ∧ Rc rows2 0 (u - rows1.length) ∧ lvE rows1 a) := by
  obtain ⟨c1, e1⟩ := beh_cov1 (rows2 := rows2) ok1
  have c2 := (blk_cov (o := rows1.length) (rows2 := behL rows1 rows2) ok2 (by rw [beh_len]; omega) fun s hs => beh_2 hs).1
  have k2 := ok2.n1
  induction r with
  | base m => rw [List.mem_singleton.mp m]; exact .inl ⟨ha, Rc.rfl' _ _⟩
  | step r m ih =>
    rename_i i t
    rcases ih with ⟨b, ri⟩ | ⟨b, ri, l⟩
    · rcases c1.down ok1 ok b m with ⟨bt, k⟩ | ⟨mm, hx⟩
      · exact .inl ⟨bt, .step ri k⟩
      · rcases List.mem_append.mp hx with hx | hx
        · cases (List.mem_replicate.mp hx).2
        · obtain ⟨h1, h2⟩ := mark_of (List.mem_singleton.mp hx)
          have : t = rows1.length := by omega
          subst this
          refine .inr ⟨⟨Nat.le_refl _, by omega⟩, by rw [Nat.sub_self]; exact Rc.rfl' _ _, i, ri, ?_⟩
          unfold isEnd
          intro h
          have h3 : enS rows1 i = .non := h
          rw [h2] at h3; cases h3
    · rcases c2.down ok2 ok b m with ⟨bt, k⟩ | ⟨mm, hx⟩
      · exact .inr ⟨bt, .step ri k, l⟩
      · cases (List.mem_replicate.mp hx).2
theorem beh_to (ok1 : MOk z rows1) (ok2 : MOk z' rows2) (ok : MOk 8 (behL rows1 rows2)) {a : Nat} (ha : a < rows1.length) (l : lvE rows1 a) : Rc (behL rows1 rows2) a rows1.length := by
  obtain ⟨c1, e1⟩ := beh_cov1 (rows2 := rows2) ok1
  obtain ⟨e, r, he⟩ := l
  obtain ⟨t2, r2, b2, rfl⟩ := c1.rc_up ok1 ok ha r
  obtain ⟨i, hi⟩ := isEnd_int ok1 b2 he
  have hi : enS rows1 t2 = .int i := hi
  obtain ⟨ws, e, _⟩ := c1.st t2 b2
  have : Th.tup [.int i, .int (rows1.length : Nat)] ∈ stS (behL rows1 rows2) t2 := by
    rw [e, hi]
    exact List.mem_append_right _ (List.mem_append_right _ (List.mem_singleton.mpr rfl))
  have := st_nx ok this
  rw [Int.toNat_natCast] at this
  exact .step r2 this
theorem beh_lvE (ok1 : MOk z rows1) (ok2 : MOk z' rows2) (ok : MOk 8 (behL rows1 rows2)) {a : Nat} (ha : a < rows1.length) : lvE (behL rows1 rows2) a ↔ lvE rows1 a ∧ lvE rows2 0 := by
  obtain ⟨c2, e2⟩ := blk_cov (o := rows1.length) (rows2 := behL rows1 rows2) ok2 (by rw [beh_len]; omega) fun s hs => beh_2 hs
  have k2 := ok2.n1
  constructor
  · rintro ⟨e, r, he⟩
    rcases beh_reach ok1 ok2 ok ha r with ⟨b, _⟩ | ⟨b, ri, l⟩
    · exact absurd ((beh_cov1 (rows2 := rows2) ok1).2 e b) he
    · refine ⟨l, e - rows1.length, ri, ?_⟩
      have := e2 e b
      unfold isEnd at he ⊢
      exact fun h => he (this.trans h)
  · rintro ⟨l1, l2⟩
    exact lvE_of (beh_to ok1 ok2 ok ha l1) ((c2.lvE (rep_NoEx _) e2 ok2 ok (u := rows1.length) ⟨Nat.le_refl _, by omega⟩).mpr (by rw [Nat.sub_self]; exact l2))
theorem mark_vT {n1 : Nat} {e : Th} {Y : Nat → Int} (h : e = .non ∨ ∃ i, e = .int i) : vT Y (markT n1 e) = shE e * Y n1 := by
  rcases h with rfl | ⟨i, rfl⟩
  · show (0 : Int) = 0 * _
    rw [Int.zero_mul]
  · show 2 ^ (60 - i).toNat * Y ((n1 : Int)).toNat = _
    rw [Int.toNat_natCast]; rfl
theorem ex_vS {n1 k : Nat} {e : Th} {Y : Nat → Int} (h : e = .non ∨ ∃ i, e = .int i) : vS Y (List.replicate k .non ++ [markT n1 e]) = shE e * Y n1 := by
  rw [vS_app, vS_none, vS_cons, mark_vT h, vS_nil]; omega
theorem en_is (ok : MOk z rows1) {u : Nat} (hu : u < rows1.length) : enS rows1 u = .non ∨ ∃ i, enS rows1 u = .int i := by
  obtain ⟨e, ss, er, c1, _⟩ := ok.row hu
  have : enS rows1 u = e := by show endOf ((rows1[u]?).getD .non) = _; rw [er]; rfl
  rw [this]
  exact c1.imp_right fun ⟨i, e, _⟩ => ⟨i, e⟩
theorem beh_sol (ok1 : MOk z rows1) (ok2 : MOk z' rows2) (ok : MOk 8 (behL rows1 rows2)) {X1 X2 : Nat → Int} {D1 D2 : Int} (h1 : RSol rows1 X1 D1) (h2 : RSol rows2 X2 D2) : TotF 8 (behL rows1 rows2) (X1 0 * X2 0) (D1 * D2) := by
  obtain ⟨c1, e1⟩ := beh_cov1 (rows2 := rows2) ok1
  obtain ⟨c2, e2⟩ := blk_cov (o := rows1.length) (rows2 := behL rows1 rows2) ok2 (by rw [beh_len]; omega) fun s hs => beh_2 hs
  have k1 := ok1.n1
  have k2 := ok2.n1
  have s2 := h2.scale h1.D0
  obtain ⟨Y, f1, f2⟩ : ∃ Y : Nat → Int, (∀ u, u < rows1.length → Y u = X1 u * X2 0) ∧ ∀ u, (rows1.length ≤ u ∧ u < rows1.length + rows2.length) → Y u = D1 * X2 (u - rows1.length) :=
    ⟨fun u => if u < rows1.length then X1 u * X2 0 else D1 * X2 (u - rows1.length), fun u hu => if_pos hu, fun u hu => if_neg (by omega)⟩
  have all : ∀ u, Rc (behL rows1 rows2) 0 u → 0 ≤ Y u ∧ (¬ lvE (behL rows1 rows2) u → Y u = 0) ∧ vS Y (stS (behL rows1 rows2) u) + D1 * D2 * shE (enS (behL rows1 rows2) u) = 2 ^ 60 * Y u := fun u r => by
    rcases beh_reach ok1 ok2 ok (a := 0) (by omega) r with ⟨b, ri⟩ | ⟨b, ri, l⟩
    · refine ⟨?_, fun nl => ?_, ?_⟩
      · rw [f1 u b]
        exact Int.mul_nonneg (h1.nn u ri) (h2.nn 0 (Rc.rfl' _ _))
      · rw [f1 u b]
        by_cases l2 : lvE rows2 0
        · rw [h1.dead u ri fun l1 => nl ((beh_lvE ok1 ok2 ok b).mpr ⟨l1, l2⟩), Int.zero_mul]
        · rw [h2.dead 0 (Rc.rfl' _ _) l2, Int.mul_zero]
      · have v := c1.vS b (X := fun s => X2 0 * X1 s) (Y := Y) fun t ht => by rw [f1 t ht, Int.mul_comm]
        rw [v, vS_mul, ex_vS (en_is ok1 b), e1 u b, f2 rows1.length ⟨Nat.le_refl _, by omega⟩, Nat.sub_self, f1 u b]
        show _ + D1 * D2 * 0 = _
        have := h1.eq u ri
        generalize vS X1 (stS rows1 u) = A at *
        generalize shE (enS rows1 u) = E at *
        have e9 : X2 0 * A + E * (D1 * X2 0) = X2 0 * (A + D1 * E) := by grind
        rw [e9, this]
        grind
    · exact c2.lift (rep_NoEx _) e2 ok2 ok s2 f2 b ri
  have := RSol.totF ⟨s2.D0, fun u r => (all u r).1, fun u r => (all u r).2.1, fun u r => (all u r).2.2⟩ ok
  rwa [f1 0 (by omega)] at this
theorem beh_back (ok1 : MOk z rows1) (ok2 : MOk z' rows2) (ok : MOk 8 (behL rows1 rows2)) (l1 : lvE rows1 0) (l2 : lvE rows2 0) (hp : PosR (trimL 8 (behL rows1 rows2))) : PosR (trimL z rows1) ∧ PosR (trimL z' rows2) := by
  obtain ⟨c1, e1⟩ := beh_cov1 (rows2 := rows2) ok1
  obtain ⟨c2, e2⟩ := blk_cov (o := rows1.length) (rows2 := behL rows1 rows2) ok2 (by rw [beh_len]; omega) fun s hs => beh_2 hs
  have k1 := ok1.n1
  have k2 := ok2.n1
  obtain ⟨X, h, _⟩ := RSol.of ok hp
  have rT := beh_to ok1 ok2 ok (a := 0) (by omega) l1
  refine ⟨?_, c2.back (rep_NoEx _) e2 ok2 ok (u0 := rows1.length) ⟨Nat.le_refl _, by omega⟩ (Nat.sub_self _) rT h.sup⟩
  have lT : lvE (behL rows1 rows2) rows1.length := (c2.lvE (rep_NoEx _) e2 ok2 ok (u := rows1.length) ⟨Nat.le_refl _, by omega⟩).mpr (by rw [Nat.sub_self]; exact l2)
  have up : ∀ s, Rc rows1 0 s → Rc (behL rows1 rows2) 0 s ∧ s < rows1.length := fun s r => by
    obtain ⟨t2, r2, b2, e⟩ := c1.rc_up ok1 ok (u := 0) (by show 0 < rows1.length; omega) r
    have e : t2 = s := e
    rw [← e]
    exact ⟨r2, b2⟩
  refine RSup.bounded (X := X) (D := X rows1.length) ⟨h.sup.pos ok rT lT, fun s r => h.nn s (up s r).1, fun s r nl => h.dead s (up s r).1 fun l => nl ((beh_lvE ok1 ok2 ok (up s r).2).mp l).1, fun s r => ?_⟩ ok1
  obtain ⟨r2, b⟩ := up s r
  have q := h.eq s r2
  have v := c1.vS b (X := X) (Y := X) fun _ _ => rfl
  rw [v, ex_vS (en_is ok1 b), e1 s b] at q
  have q' : vS X (stS rows1 s) + shE (enS rows1 s) * X rows1.length + dk (eqr (trimL 8 (behL rows1 rows2))) (trimL 8 (behL rows1 rows2)).length * 0 = 2 ^ 60 * X s := q
  rw [Int.mul_comm (X rows1.length)]
  omega
end
end KL
end
section
set_option maxHeartbeats 1000000
namespace KL
open PySem PySem.Spec PyProof.Rows L2
abbrev sc_law_totalN : List Str := ["_law_machine_here", "_law_found"]
abbrev s_law_total : Stmt := topS 47
theorem sc_law_total : FnScope ["_law_machine_here", "_law_found"] ["_law_machine_here"] (defScope s_law_total) := ⟨rfl, rfl, rfl, by decide +kernel, rfl, by decide +kernel, by decide +kernel⟩
abbrev sc_law_plusN : List Str := ["_law_one", "_law_other"]
abbrev s_law_plus : Stmt := topS 44
theorem sc_law_plus : FnScope ["_law_one", "_law_other"] ["_law_one", "_law_other"] (defScope s_law_plus) := ⟨rfl, rfl, rfl, by decide +kernel, rfl, by decide +kernel, by decide +kernel⟩
abbrev sc_law_sumN : List Str := ["_law_one", "_law_other"]
abbrev s_law_sum : Stmt := topS 53
theorem sc_law_sum : FnScope ["_law_one", "_law_other"] ["_law_one", "_law_other"] (defScope s_law_sum) := ⟨rfl, rfl, rfl, by decide +kernel, rfl, by decide +kernel, by decide +kernel⟩
abbrev sc_law_partN : List Str := ["_law_one", "_law_more"]
abbrev s_law_part : Stmt := topS 54
theorem sc_law_part : FnScope ["_law_one", "_law_more"] ["_law_one", "_law_more"] (defScope s_law_part) := ⟨rfl, rfl, rfl, by decide +kernel, rfl, by decide +kernel, by decide +kernel⟩
/-- a fraction, or none -/
def FT : Option (Int × Int) → Th
  | some (a, b) => .tup [.int a, .int b]
  | none => .non
def lowP (a b : Int) : Int × Int := (lowT a b, b / ((Nat.gcd a.natAbs b.natAbs : Nat) : Int))
theorem sgP_low {a b : Int} (hb : 0 < b) : sgP a b = FT (some (lowP a b)) := by
  show Th.tup [.int (a / sgcd a b), .int (b / sgcd a b)] = _
  unfold sgcd
  rw [if_neg (by omega)]
  rfl
/-- a fraction that is not too great -/
def OkF (c : Nat) (o : Option (Int × Int)) : Prop := ∀ a b, o = some (a, b) → 0 < b ∧ a.natAbs < 2 ^ c ∧ b.natAbs < 2 ^ c
theorem lowP_ok {a b : Int} {c : Nat} (hb : 0 < b) (h1 : a.natAbs < 2 ^ c) (h2 : b.natAbs < 2 ^ c) : OkF c (some (lowP a b)) := fun x y e => by
  injection e with e
  obtain ⟨rfl, rfl⟩ := Prod.mk.inj e
  exact ⟨(low_parts (a := a) hb).2.2, low_abs h1, Nat.lt_of_le_of_lt (Int.natAbs_ediv_le_natAbs _ _) h2⟩
noncomputable def totO (z : Int) (rows : List Th) : Option (Int × Int) := @ite _ (PosR (trimL z rows)) (Classical.propDecidable _) (some (topT (trimL z rows), botT (trimL z rows))) none
theorem totO_some {z : Int} {rows : List Th} (h : PosR (trimL z rows)) : totO z rows = some (topT (trimL z rows), botT (trimL z rows)) := by unfold totO; rw [if_pos h]
theorem totO_none {z : Int} {rows : List Th} (h : ¬ PosR (trimL z rows)) : totO z rows = none := by unfold totO; rw [if_neg h]
theorem totO_ok {z : Int} {rows : List Th} (ok : MOk z rows) : OkF 4000 (totO z rows) := fun a b e => by
  by_cases h : PosR (trimL z rows)
  · rw [totO_some h] at e
    injection e with e
    obtain ⟨rfl, rfl⟩ := Prod.mk.inj e
    obtain ⟨h1, h2⟩ := botT_small (trimL_ok ok) h
    exact ⟨h2, topT_small (trimL_ok ok), h1⟩
  · rw [totO_none h] at e; cases e
/-- an own or a told total, as one thing -/
def spTotO : Sp := fun vs H Q _ => ∃ (Z : Zone) (u : V) (z : Int) (rows : List Th), vs = [u] ∧ At Z H (.tup [.int z, .tup rows]) u ∧ MOk z rows ∧ ∀ v H', Same H H' → At (Trk H) H' (FT (totO z rows)) v → Q v H'
def spTotO' (CM : Addr) : Sp := fun vs H Q E => ∃ (Z : Zone) (u : V) (e : Th), vs = [u] ∧ At Z H e u ∧ shortT e = true ∧ (∀ z rows, e = .tup [.int z, .tup rows] → MOk z rows → ∀ v H', Same H H' → At (Trk H) H' (FT (totO z rows)) v → Q v H') ∧ (machB e = false → ∀ H', Same H H' → E (.ref CM) none H')
def addP (p q : Int × Int) : Int × Int := lowP (p.1 * q.2 + q.1 * p.2) (p.2 * q.2)
def spPlus : Sp := fun vs H Q _ => ∃ (Z : Zone) (u v : V) (p q : Int × Int), vs = [u, v] ∧ At Z H (FT (some p)) u ∧ At Z H (FT (some q)) v ∧ OkF 4200 (some p) ∧ OkF 4200 (some q) ∧ ∀ w H', Same H H' → At (Trk H) H' (FT (some (addP p q))) w → Q w H'
def sumO : Option (Int × Int) → Option (Int × Int) → Option (Int × Int)
  | some p, some q => some (addP p q)
  | _, _ => none
def spSum : Sp := fun vs H Q _ => ∃ (Z : Zone) (u v : V) (o1 o2 : Option (Int × Int)), vs = [u, v] ∧ At Z H (FT o1) u ∧ At Z H (FT o2) v ∧ OkF 4200 o1 ∧ OkF 4200 o2 ∧ ∀ w H', Same H H' → At (Trk H) H' (FT (sumO o1 o2)) w → Q w H'
def partO (k : Nat) : Option (Int × Int) → Option (Int × Int)
  | some p => some (lowP p.1 (p.2 * 2 ^ k))
  | none => none
def spPart : Sp := fun vs H Q _ => ∃ (Z : Zone) (u : V) (o : Option (Int × Int)) (k : Nat), vs = [u, .int (k : Nat)] ∧ At Z H (FT o) u ∧ OkF 4000 o ∧ k ≤ 60 ∧ ∀ w H', Same H H' → At (Trk H) H' (FT (partO k o)) w → Q w H'
theorem partO_ok {k : Nat} (hk : k ≤ 60) {o : Option (Int × Int)} (h : OkF 4000 o) : OkF 4200 (partO k o) := by
  cases o with
  | none => exact fun a b e => nomatch e
  | some p =>
    obtain ⟨h1, h2, h3⟩ := h p.1 p.2 rfl
    refine lowP_ok (Int.mul_pos h1 (Int.pow_pos (by decide))) (Nat.lt_of_lt_of_le h2 (Nat.pow_le_pow_right (by decide) (by decide))) ?_
    rw [Int.natAbs_mul, Int.natAbs_pow]
    have : p.2.natAbs * 2 ^ k < 2 ^ 4000 * 2 ^ k := Nat.mul_lt_mul_of_pos_right h3 (Nat.pow_pos (by decide))
    refine Nat.lt_of_lt_of_le this ?_
    rw [← Nat.pow_add]
    exact Nat.pow_le_pow_right (by decide) (by omega)
section
variable {P : Program} {w : World} {K : PySem.W.Frag} {mg : Str → Option Value} {base : Heap} {k : Nat} {t1 t2 t3 : Tok}
theorem tot_one {CM : Addr} (c : Cal P w K mg base (L2.CX P w) k "total" ["machine"] (spTotal CM)) : Cal P w K mg base (L2.CX P w) k "total" ["machine"] (spTotO' CM) :=
  c.imp fun vs H Q E h => by
    obtain ⟨Zn, u, e, rfl, hu, se, q1, q0⟩ := h
    refine ⟨Zn, u, e, rfl, hu, se, fun z rows e1 ok => ⟨fun hp v H' s' a' => q1 z rows e1 ok v H' s' ?_, fun hp H' s' => q1 z rows e1 ok .non H' s' ?_⟩, q0⟩
    · rw [totO_some hp]; exact a'
    · rw [totO_none hp]; rfl
theorem ok_law_total (c_law_trim : Cal P w K mg base CX0 k "_law_trim" ["_law_machine_here"] spLTrim) (c_law_worths : Cal P w K mg base CX0 k "_law_worths" ["_law_small"] spOwn1) (d : Def K mg "_law_total" s_law_total ["_law_machine_here"]) : Cal P w K mg base CX0 (k + 1) "_law_total" ["_law_machine_here"] spTotO := by
  refine d.ok sc_law_total (fun vs H Q E h => ?_) (fun f cdv A outer s H vs Q E hr h => ?_)
  · obtain ⟨_, _, _, _, rfl, _⟩ := h; rfl
  obtain ⟨Zn, u, z, rows, rfl, hu, ok, q⟩ := h
  refine ⟨_, (pss_cons (ps_set (i := 1) sc_law_total.nd rfl (Or.inl rfl) (pe_cal c_law_worths hr (by rfl) (pa_cons (pe_cal c_law_trim hr (by rfl) (pa_cons (pv 0) pa_nil)) pa_nil)))
      (pss_one (ps_ret (pe_ifExp (pt_cmpR op_isN (pv 1) pe_non (nomark _)) pe_non (pe_ix ix_tup (pv 1) pe_int (fun _ _ => rfl)))))), ?_⟩
  have n1 := (trimL_ok ok).n1
  refine ⟨_, rfl, Zn, u, z, rows, rfl, hu, ok, fun v1 H1 s1 a1 => ?_⟩
  refine ⟨Trk H, v1, z, rows, rfl, a1, ok, fun hp v2 H2 s2 a2 => ?_, fun hp H2 s2 => ?_⟩
  · obtain ⟨p, vs, rfl, np, ep, av⟩ := id (show At (Trk H1) H2 (wosT (trimL z rows)) v2 from a2)
    obtain ⟨v0, ev0, h0⟩ := av.at (i := 0) (d := frT (Yk (eqr (trimL z rows)) (trimL z rows).length 0 (trimL z rows).length) (dk (eqr (trimL z rows)) (trimL z rows).length)) (by rw [List.getElem?_map, List.getElem?_range (by omega)]; rfl)
    refine ⟨_, rfl, rfl, _, rfl, iteF ⟨_, rfl, p, _, 0, v0, rfl, rfl, .of ep, atI_nat ev0, q v0 H2 (s1.trans s2) ?_⟩⟩
    rw [totO_some hp]
    exact h0.less fun a t => Trk.same s1 t
  · refine ⟨_, rfl, rfl, _, rfl, iteT (q .non H2 (s1.trans s2) ?_)⟩
    rw [totO_none hp]; rfl
theorem ok_law_plus (c_law_reduced : Cal P w K mg base CX0 k "_law_reduced" ["_law_top", "_law_bottom"] spReduced) (d : Def K mg "_law_plus" s_law_plus ["_law_one", "_law_other"]) : Cal P w K mg base CX0 (k + 1) "_law_plus" ["_law_one", "_law_other"] spPlus := by
  refine d.ok sc_law_plus (fun vs H Q E h => ?_) (fun f cdv A outer s H vs Q E hr h => ?_)
  · obtain ⟨_, _, _, _, _, rfl, _⟩ := h; rfl
  obtain ⟨Zn, u, v, p, q, rfl, hu, hv, hp, hq, qq⟩ := h
  refine ⟨_, (pss_one (ps_ret (pe_cal c_law_reduced hr (by rfl) (pa_cons (pe_op op_add (pe_op op_mulW (pe_ix ix_tup (pv 0) pe_int (fun _ _ => rfl)) (pe_ix ix_tup (pv 1) pe_int (fun _ _ => rfl))) (pe_op op_mulW (pe_ix ix_tup (pv 1) pe_int (fun _ _ => rfl)) (pe_ix ix_tup (pv 0) pe_int (fun _ _ => rfl)))) (pa_cons (pe_op op_mulW (pe_ix ix_tup (pv 0) pe_int (fun _ _ => rfl)) (pe_ix ix_tup (pv 1) pe_int (fun _ _ => rfl))) pa_nil))))), ?_⟩
  obtain ⟨a, b⟩ := p
  obtain ⟨c, e⟩ := q
  obtain ⟨b0, ha, hb⟩ := hp a b rfl
  obtain ⟨e0, hc, he⟩ := hq c e rfl
  obtain ⟨p1, va, vb, rfl, ep1, h1, h2⟩ := At.pair (show At Zn H (.tup [.int a, .int b]) u from hu)
  obtain ⟨p2, vc, ve, rfl, ep2, h3, h4⟩ := At.pair (show At Zn H (.tup [.int c, .int e]) v from hv)
  cases (show va = V.int a from h1)
  cases (show vb = V.int b from h2)
  cases (show vc = V.int c from h3)
  cases (show ve = V.int e from h4)
  have cm : ∀ {x y : Int}, x.natAbs < 2 ^ 4200 → y.natAbs < 2 ^ 4200 → CMulW x y := fun h1 h2 => wide_mul h1 h2 (by decide) (by decide) (by decide)
  have be := Int.mul_pos b0 e0
  refine ⟨_, rfl, p1, _, 0, _, rfl, rfl, .of ep1, rfl, _, rfl, p2, _, 1, _, rfl, rfl, .of ep2, rfl, _, _, rfl, rfl, cm ha he, _, rfl, p2, _, 0, _, rfl, rfl, .of ep2, rfl, _, rfl, p1, _, 1, _, rfl, rfl, .of ep1, rfl, _, _, rfl, rfl, cm hc hb, _, _, rfl, rfl, _, rfl, p1, _, 1, _, rfl, rfl, .of ep1, rfl, _, rfl, p2, _, 1, _, rfl, rfl, .of ep2, rfl, _, _, rfl, rfl, cm hb he, ?_⟩
  refine ⟨_, _, rfl, by omega, Nat.lt_of_lt_of_le (wide_lt hb he) (Nat.pow_le_pow_right (by decide) (by decide)), fun p3 H' s' n3 e3 => qq _ H' s' ?_⟩
  have := sgP_low (a := a * e + c * b) be
  rw [show FT (some (addP (a, b) (c, e))) = sgP (a * e + c * b) (b * e) from this.symm]
  exact ⟨p3, _, rfl, fun h => h n3, e3, .cons rfl (.cons rfl .nil)⟩
theorem FT_non {Z : Zone} {H : Hp} {o : Option (Int × Int)} {v : V} (h : At Z H (FT o) v) : (o = none ∧ v = .non) ∨ ∃ p q, o = some p ∧ v = .ref q := by
  cases o with
  | none => exact .inl ⟨rfl, h⟩
  | some p =>
    obtain ⟨q, _, _, e, _⟩ := At.pair (show At Z H (.tup [.int p.1, .int p.2]) v from h)
    exact .inr ⟨p, q, rfl, e⟩
theorem ok_law_sum (c_law_plus : Cal P w K mg base CX0 k "_law_plus" ["_law_one", "_law_other"] spPlus) (d : Def K mg "_law_sum" s_law_sum ["_law_one", "_law_other"]) : Cal P w K mg base CX0 (k + 1) "_law_sum" ["_law_one", "_law_other"] spSum := by
  refine d.ok sc_law_sum (fun vs H Q E h => ?_) (fun f cdv A outer s H vs Q E hr h => ?_)
  · obtain ⟨_, _, _, _, _, rfl, _⟩ := h; rfl
  obtain ⟨Zn, u, v, o1, o2, rfl, hu, hv, h1, h2, q⟩ := h
  refine ⟨_, (pss_one (ps_ret (pe_ifExp (PW.pt (pw_or (pt_cmpR op_isN (pv 0) pe_non (nomark _)) (pw_or1 (pt_cmpR op_isN (pv 1) pe_non (nomark _))))) pe_non (pe_cal c_law_plus hr (by rfl) (pa_cons (pv 0) (pa_cons (pv 1) pa_nil)))))), ?_⟩
  rcases FT_non hu with ⟨rfl, rfl⟩ | ⟨p1, q1, rfl, rfl⟩
  · exact ⟨_, rfl, rfl, _, rfl, iteT (iteT (q .non H (Same.refl H) rfl))⟩
  · refine ⟨_, rfl, rfl, _, rfl, iteF ?_⟩
    rcases FT_non hv with ⟨rfl, rfl⟩ | ⟨p2, q2, rfl, rfl⟩
    · exact ⟨_, rfl, rfl, _, rfl, iteT (q .non H (Same.refl H) rfl)⟩
    · exact ⟨_, rfl, rfl, _, rfl, iteF ⟨_, rfl, _, rfl, Zn, _, _, p1, p2, rfl, hu, hv, h1, h2, fun w H' s' a' => q w H' s' a'⟩⟩
theorem ok_law_part (c_law_reduced : Cal P w K mg base CX0 k "_law_reduced" ["_law_top", "_law_bottom"] spReduced) (c_law_power : Cal P w K mg base CX0 k "_law_power" ["_law_many"] spPower) (d : Def K mg "_law_part" s_law_part ["_law_one", "_law_more"]) : Cal P w K mg base CX0 (k + 1) "_law_part" ["_law_one", "_law_more"] spPart := by
  refine d.ok sc_law_part (fun vs H Q E h => ?_) (fun f cdv A outer s H vs Q E hr h => ?_)
  · obtain ⟨_, _, _, _, rfl, _⟩ := h; rfl
  obtain ⟨Zn, u, o, kk, rfl, hu, ho, hk, q⟩ := h
  refine ⟨_, (pss_one (ps_ret (pe_ifExp (pt_cmpR op_isN (pv 0) pe_non (nomark _)) pe_non (pe_cal c_law_reduced hr (by rfl) (pa_cons (pe_ix ix_tup (pv 0) pe_int (fun _ _ => rfl)) (pa_cons (pe_op op_mulW (pe_ix ix_tup (pv 0) pe_int (fun _ _ => rfl)) (pe_cal c_law_power hr (by rfl) (pa_cons (pv 1) pa_nil))) pa_nil)))))), ?_⟩
  rcases FT_non hu with ⟨rfl, rfl⟩ | ⟨p1, q1, rfl, rfl⟩
  · exact ⟨_, rfl, rfl, _, rfl, iteT (q .non H (Same.refl H) rfl)⟩
  · obtain ⟨a, b⟩ := p1
    obtain ⟨b0, ha, hb⟩ := ho a b rfl
    obtain ⟨p2, va, vb, e2, ep, h1, h2⟩ := At.pair (show At Zn H (.tup [.int a, .int b]) (.ref q1) from hu)
    cases e2
    cases (show va = V.int a from h1)
    cases (show vb = V.int b from h2)
    have p0 : (0 : Int) < 2 ^ kk := Int.pow_pos (by decide)
    have bp := Int.mul_pos b0 p0
    have pw : ((2 : Int) ^ kk).natAbs < 2 ^ 61 := by
      rw [Int.natAbs_pow]
      exact Nat.lt_of_le_of_lt (Nat.pow_le_pow_right (by decide) hk) (by decide)
    refine ⟨_, rfl, rfl, _, rfl, iteF ⟨_, rfl, q1, _, 0, _, rfl, rfl, .of ep, rfl, _, rfl, q1, _, 1, _, rfl, rfl, .of ep, rfl, _, rfl, kk, rfl, by omega, _, _, rfl, rfl, wide_mul hb pw (by decide) (by decide) (by decide), ?_⟩⟩
    refine ⟨_, _, rfl, by omega, Nat.lt_of_lt_of_le (wide_lt hb pw) (Nat.pow_le_pow_right (by decide) (by decide)), fun p3 H' s' n3 e3 => q _ H' s' ?_⟩
    rw [show FT (partO kk (some (a, b))) = sgP a (b * 2 ^ kk) from (sgP_low bp).symm]
    exact ⟨p3, _, rfl, fun h => h n3, e3, .cons rfl (.cons rfl .nil)⟩
end
end KL
end
section
set_option maxHeartbeats 1000000
namespace KL
open PySem PySem.Spec PyProof.Rows L2
abbrev sc_law_movedN : List Str := ["_law_rows", "_law_many", "_law_found", "_law_end", "_law_steps", "_law_step"]
abbrev s_law_moved : Stmt := topS 48
theorem sc_law_moved : FnScope ["_law_rows", "_law_many", "_law_found", "_law_end", "_law_steps", "_law_step"] ["_law_rows", "_law_many"] (defScope s_law_moved) := ⟨rfl, rfl, rfl, by decide +kernel, rfl, by decide +kernel, by decide +kernel⟩
abbrev sc_law_laterN : List Str := ["_law_machine_here", "_law_end", "_law_steps"]
abbrev s_law_later : Stmt := topS 49
theorem sc_law_later : FnScope ["_law_machine_here", "_law_end", "_law_steps"] ["_law_machine_here"] (defScope s_law_later) := ⟨rfl, rfl, rfl, by decide +kernel, rfl, by decide +kernel, by decide +kernel⟩
abbrev sc_law_underN : List Str := ["_law_one", "_law_other", "_law_mores", "_law_rows", "_law_end", "_law_steps"]
abbrev s_law_under : Stmt := topS 50
theorem sc_law_under : FnScope ["_law_one", "_law_other", "_law_mores", "_law_rows", "_law_end", "_law_steps"] ["_law_one", "_law_other", "_law_mores"] (defScope s_law_under) := ⟨rfl, rfl, rfl, by decide +kernel, rfl, by decide +kernel, by decide +kernel⟩
abbrev sc_law_behindN : List Str := ["_law_one", "_law_other", "_law_rows", "_law_end", "_law_steps", "_law_mark"]
abbrev s_law_behind : Stmt := topS 51
theorem sc_law_behind : FnScope ["_law_one", "_law_other", "_law_rows", "_law_end", "_law_steps", "_law_mark"] ["_law_one", "_law_other"] (defScope s_law_behind) := ⟨rfl, rfl, rfl, by decide +kernel, rfl, by decide +kernel, by decide +kernel⟩
def movR (k : Int) (r : Th) : Th := .tup [endOf r, .tup ((stepsOf r).map (mvT k))]
def spMoved : Sp := fun vs H Q _ => ∃ (Z : Zone) (pr : Addr) (us : List V) (z : Int) (rows : List Th) (kk : Nat), vs = [.ref pr, .int (kk : Nat)] ∧ H pr = some (.tup us) ∧ AtAll Z H rows us ∧ MOk z rows ∧ kk ≤ 100 ∧ ∀ N H' vs', Same H H' → H N = none → H' N = some (.lst vs') → AtAll (fun a => a = N ∨ Trk H a) H' (rows.map (movR (kk : Nat))) vs' → Q (.ref N) H'
def spLater : Sp := fun vs H Q _ => ∃ (Z : Zone) (u : V) (z : Int) (rows : List Th), vs = [u] ∧ At Z H (.tup [.int z, .tup rows]) u ∧ MOk z rows ∧ (∀ a, Z a → Trk H a) ∧ ∀ v H', Same H H' → At Z H' (.tup [.int z, .tup (latL rows)]) v → Q v H'
section
variable {P : Program} {w : World} {K : PySem.W.Frag} {mg : Str → Option Value} {base : Heap} {k : Nat} {t1 t2 t3 : Tok}
theorem ok_law_moved (Z : Zs mg) (d : Def K mg "_law_moved" s_law_moved ["_law_rows", "_law_many"]) : Cal P w K mg base CX0 (k + 1) "_law_moved" ["_law_rows", "_law_many"] spMoved := by
  refine d.ok sc_law_moved (fun vs H Q E h => ?_) (fun f cdv A outer s H vs Q E hr h => ?_)
  · obtain ⟨_, _, _, _, _, _, rfl, _⟩ := h; rfl
  obtain ⟨Zn, pr, us, z, rows, kk, rfl, epr, ar, ok, hk, q⟩ := h
  refine ⟨_, (pss_cons (ps_set (i := 2) sc_law_moved.nd rfl (Or.inl rfl) (pe_lst pa_nil))
      (pss_cons (ps_for PassesOwn.never rfl (pi_tup (pv 0)) (pg_tup (by rfl) (pgs_cons (pg_name (i := 3) sc_law_moved.nd rfl (Or.inl rfl)) (pgs_cons (pg_name (i := 4) sc_law_moved.nd rfl (Or.inl rfl)) pgs_nil))) (pss_one (ps_expr (pe_bm PySem.F.plainAttrs_list PySem.F.slot_list_append PySem.F.type_list_append mt_append (pv 2) (pa_cons (pe_tup (pa_cons (pv 3) (pa_cons (pe_callTy (T := "tuple") call_tuple_of (by rfl) Z.tuple (by decide +kernel) (pa_cons (pe_lc (own := [("_law_step", 5)]) (g := gName 5) (tt := tYes) rfl sc_law_moved.nd (pi_tup (pv 4)) (blkOk_by (N := ["_law_rows", "_law_many", "_law_found", "_law_end", "_law_steps", "_law_step"]) (sc := defScope s_law_moved) (by decide +kernel)) (fun _ _ _ _ _ => (pg_name (i := 5) sc_law_moved.nd rfl (Or.inl rfl))) (fun _ _ _ _ _ => pts_nil) (fun _ _ _ _ _ => (pe_ifExp (pt_cmpR op_isN (pv 5) pe_non (nomark _)) pe_non (pe_tup (pa_cons (pe_ix (r := rIxT K) ix_tup (pv 5) pe_int (fun _ _ => rfl)) (pa_cons (pe_op op_add (pe_ix (r := rIxT K) ix_tup (pv 5) pe_int (fun _ _ => rfl)) (pv 1)) pa_nil)))))) pa_nil)) pa_nil))) pa_nil)))))
      (pss_one (ps_ret (pv 2))))), ?_⟩
  have n30 := ok.n30
  have z8 := ok.z8
  have lu := ar.len
  refine ⟨(by show 0 ≤ sizeLine; decide), fun F nF => ?_⟩
  have yF := same_new nF (.lst [])
  refine ⟨_, rfl, pr, rfl, ⟨_, .of (yF _ _ epr)⟩, ?_⟩
  refine for_tup (xs := us) (fun i σ' G => Same H G ∧ ∃ (vs : List V) (y3 y4 : Option V), σ' = [some (.ref pr), some (.int (kk : Nat)), some (.ref F), y3, y4, none] ∧ G F = some (.lst vs) ∧ AtAll (fun a => a = F ∨ Trk H a) G ((rows.take i).map (movR (kk : Nat))) vs) ⟨yF, [], none, none, rfl, upd_same, .nil⟩ (fun i σ' G _ hh => .of (hh.1 _ _ epr)) (fun i x σ' G ex hh => ?_) (fun σ' G hh => ?_)
  · obtain ⟨sG, vs, y3, y4, rfl, eF, aF⟩ := hh
    have hi : i < rows.length := by rw [← lu]; exact (List.getElem?_eq_some_iff.mp ex).1
    obtain ⟨pu, ve, ps, vs2, e, ss, b1, b2, b3, b4, b5, b6, b7, b8, b9⟩ := row_at (ar.same sG) ok hi
    rw [b1] at ex
    cases ex
    have ls := b8.len
    refine ⟨pu, _, rfl, .of b2, rfl, _, _, rfl, _, _, rfl, rfl, ?_⟩
    refine ⟨_, rfl, .inl ⟨rfl, _, .inl (.inl eF)⟩, ?_⟩
    refine ⟨_, rfl, _, rfl, ps, rfl, ⟨_, .of b3⟩, lc_newW (f := fun j => mvT (kk : Nat) ((ss[j]?).getD .non)) walk_tup (fun _ _ _ _ h => h) (fun G' s' => .of (s' _ _ b3)) (by omega) (fun _ => rfl) (fun j x G2 hj ex2 s2 R hR => ?_) (fun D G4 vs4 s4 nD eD aD => ?_)⟩
    · rcases st_get (b8.same s2) b9 ex2 with ⟨f1, rfl⟩ | ⟨q2, m, s2', f1, rfl, f2, _, m0, m1, c0, c1⟩
      · refine ⟨_, rfl, rfl, _, rfl, iteT (hR .non G2 (Same.refl G2) ?_)⟩
        rw [f1]; rfl
      · refine ⟨_, rfl, rfl, _, rfl, iteF ⟨_, rfl, q2, _, 0, _, rfl, rfl, .of f2, rfl, _, rfl, q2, _, 1, _, rfl, rfl, .of f2, rfl, _, rfl, _, _, rfl, rfl, (by show 2 ≤ sizeLine; decide), fun p9 n9 => hR _ _ (same_new n9 _) ?_⟩⟩
        rw [f1]
        exact ⟨p9, _, rfl, Trk.not n9, upd_same, .cons rfl (.cons rfl .nil)⟩
    · rw [ls, range_map_get (mvT (kk : Nat))] at aD
      refine ⟨D, vs4, rfl, .inl ⟨.of eD, fun p5 n5 => ⟨(by show 2 ≤ sizeLine; decide), fun p6 n6 => ?_⟩⟩⟩
      have y5 := same_new n5 (.tup vs4)
      have y6 := same_new n6 (.tup [ve, .ref p5])
      have y56 := y5.trans y6
      have s46 := s4.trans y56
      have eF6 := s46 _ _ eF
      have zz : ∀ a, (a = F ∨ Trk H a) → Trk G a := fun a h => by
        rcases h with rfl | h
        · exact .of eF
        · exact Trk.same sG h
      refine ⟨F, vs, _, rfl, rfl, eF6, by rw [aF.len, List.length_map, List.length_take, sizeLine_eq]; omega, ?_⟩
      have sD : SB (fun a => a = F ∨ Trk H a) (upd (upd G4 p5 (.tup vs4)) p6 (.tup [ve, .ref p5])) (upd (upd (upd G4 p5 (.tup vs4)) p6 (.tup [ve, .ref p5])) F (.lst (vs ++ [.ref p6]))) := .self (Z := fun a => a = F ∨ Trk H a) (.inl rfl) _
      refine ⟨Same.upd_new (sG.trans s46) nF _, vs ++ [.ref p6], _, _, rfl, upd_same, ?_⟩
      rw [List.take_add_one, b4, List.map_append]
      refine ((aF.same s46).sb sD).append (.cons (At.sb sD ?_) .nil)
      show At _ _ (.tup [e, .tup (ss.map (mvT (kk : Nat)))]) _
      refine ⟨p6, _, rfl, fun h => Trk.not n6 (Trk.same (s4.trans y5) (zz _ h)), upd_same, .cons ?_ (.cons ⟨p5, vs4, rfl, fun h => Trk.not n5 (Trk.same s4 (zz _ h)), y6 _ _ upd_same, ?_⟩ .nil)⟩
      · rcases b6 with ⟨rfl, rfl⟩ | ⟨i, rfl, rfl⟩ <;> rfl
      · exact (aD.less fun a h => .inr (zz a h)).same y56
  · obtain ⟨sG, vs, y3, y4, rfl, eF, aF⟩ := hh
    rw [lu, List.take_length] at aF
    exact ⟨_, rfl, q F G vs sG nF eF aF⟩
theorem ok_law_later (Z : Zs mg) (d : Def K mg "_law_later" s_law_later ["_law_machine_here"]) : Cal P w K mg base CX0 (k + 1) "_law_later" ["_law_machine_here"] spLater := by
  refine d.ok sc_law_later (fun vs H Q E h => ?_) (fun f cdv A outer s H vs Q E hr h => ?_)
  · obtain ⟨_, _, _, _, rfl, _⟩ := h; rfl
  obtain ⟨Zn, u, z, rows, rfl, hu, ok, zt, q⟩ := h
  refine ⟨_, (pss_one (ps_ret (pe_tup (pa_cons (pe_ix ix_tup (pv 0) pe_int (fun _ _ => rfl)) (pa_cons (pe_callTy (T := "tuple") call_tuple_of (by rfl) Z.tuple (by decide +kernel) (pa_cons (pe_lc (own := [("_law_end", 1), ("_law_steps", 2)]) (g := (gTup K 2 (gCons (gName 1) (gCons (gName 2) gNil)))) (tt := tYes) rfl sc_law_later.nd (pi_tup (pe_ix ix_tup (pv 0) pe_int (fun _ _ => rfl))) (blkOk_by (N := ["_law_machine_here", "_law_end", "_law_steps"]) (sc := defScope s_law_later) (by decide +kernel)) (fun _ _ _ _ _ => (pg_tup (by rfl) (pgs_cons (pg_name (i := 1) sc_law_later.nd rfl (Or.inl rfl)) (pgs_cons (pg_name (i := 2) sc_law_later.nd rfl (Or.inl rfl)) pgs_nil)))) (fun _ _ _ _ _ => pts_nil) (fun _ _ _ _ _ => (pe_tup (pa_cons (pe_ifExp (pt_cmpR op_isN (pv 1) pe_non (nomark _)) pe_non (pe_op op_add (pv 1) pe_int)) (pa_cons (pv 2) pa_nil))))) pa_nil)) pa_nil))))), ?_⟩
  have n30 := ok.n30
  obtain ⟨p, pr, us, rfl, ep, epr, ar, _⟩ := At.mach hu
  have lu := ar.len
  refine ⟨_, rfl, p, _, 0, _, rfl, rfl, .of ep, rfl, _, rfl, p, _, 1, _, rfl, rfl, .of ep, rfl, pr, rfl, ⟨_, .of epr⟩, fun D hD => lc_it walk_tup (fun j G => Same H G ∧ ∃ vs, G D = some (.lst vs) ∧ AtAll (fun a => a = D ∨ Zn a) G ((rows.take j).map latR) vs) ⟨same_new hD _, [], upd_same, .nil⟩ (fun j G _ p2 => .of (p2.1 _ _ epr)) (fun j x G G' hj p2 y => ?_) (fun G p2 => ?_)⟩
  · obtain ⟨sG, vs, eD, aD⟩ := p2
    obtain ⟨rfl, ex⟩ := y
    have hi : j < rows.length := by omega
    have arD : AtAll (fun a => a = D ∨ Zn a) H rows us := ar.step .rfl' fun a na tr h => h.elim (fun e => tr (by rw [e]; exact hD)) na
    obtain ⟨pu, ve, ps, vs2, e, ss, b1, b2, b3, b4, b5, b6, b7, b8, b9⟩ := row_at (arD.same sG) ok hi
    rw [b1] at ex
    cases ex
    refine ⟨pu, _, rfl, .of b2, rfl, _, _, rfl, _, _, rfl, rfl, rfl, ?_⟩
    have fin : ∀ v, At (fun a => a = D ∨ Zn a) G' (incE e) v → ∀ p6, G' p6 = none → ∃ acc, (upd G' p6 (.tup [v, .ref ps])) D = some (.lst acc) ∧ acc.length < sizeLine ∧ Same H (upd (upd G' p6 (.tup [v, .ref ps])) D (.lst (acc ++ [.ref p6]))) ∧ ∃ vs, (upd (upd G' p6 (.tup [v, .ref ps])) D (.lst (acc ++ [.ref p6]))) D = some (.lst vs) ∧ AtAll (fun a => a = D ∨ Zn a) (upd (upd G' p6 (.tup [v, .ref ps])) D (.lst (acc ++ [.ref p6]))) ((rows.take (j + 1)).map latR) vs := fun v hv p6 n6 => by
      have y6 := same_new n6 (.tup [v, .ref ps])
      have sD : SB (fun a => a = D ∨ Zn a) (upd G' p6 (.tup [v, .ref ps])) (upd (upd G' p6 (.tup [v, .ref ps])) D (.lst (vs ++ [.ref p6]))) := .self (Z := fun a => a = D ∨ Zn a) (.inl rfl) _
      refine ⟨vs, y6 _ _ eD, by rw [aD.len, List.length_map, List.length_take, sizeLine_eq]; omega, Same.upd_new (sG.trans y6) hD _, _, upd_same, ?_⟩
      rw [List.take_add_one, b4, List.map_append]
      refine ((aD.same y6).sb sD).append (.cons (At.sb sD ?_) .nil)
      show At _ _ (.tup [incE e, .tup ss]) _
      have nps : ¬ (ps = D ∨ Zn ps) := by
        obtain ⟨_, hx⟩ := arD.same sG |>.at b4
        obtain ⟨e1, hx⟩ := hx
        rw [b1] at e1
        cases e1
        obtain ⟨_, _, _, e2, e3, _, hw⟩ := hx.pair
        cases e2
        rw [b2] at e3
        cases e3
        obtain ⟨_, _, e4, n, _⟩ := hw
        cases e4
        exact n
      refine ⟨p6, _, rfl, fun h => ?_, upd_same, .cons (hv.same y6) (.cons ⟨ps, vs2, rfl, nps, y6 _ _ b3, b8.same y6⟩ .nil)⟩
      rcases h with rfl | h
      · rw [eD] at n6; cases n6
      · exact Trk.same sG (zt _ h) n6
    rcases b6 with ⟨rfl, rfl⟩ | ⟨i, rfl, rfl⟩
    · exact ⟨_, rfl, rfl, _, rfl, iteT ⟨_, rfl, (by show 2 ≤ sizeLine; decide), fun p6 n6 => fin .non rfl p6 n6⟩⟩
    · exact ⟨_, rfl, rfl, _, rfl, iteF ⟨_, rfl, _, _, rfl, rfl, _, rfl, (by show 2 ≤ sizeLine; decide), fun p6 n6 => fin _ rfl p6 n6⟩⟩
  · obtain ⟨sG, vs, eD, aD⟩ := p2
    rw [lu, List.take_length] at aD
    refine ⟨D, vs, rfl, .inl ⟨.of eD, fun p5 n5 => ⟨(by show 2 ≤ sizeLine; decide), fun p6 n6 => ?_⟩⟩⟩
    have y5 := same_new n5 (.tup vs)
    have y6 := same_new n6 (.tup [.int z, .ref p5])
    have y56 := y5.trans y6
    exact q _ _ (sG.trans y56) ⟨p6, _, rfl, fun h => Trk.same (sG.trans y5) (zt _ h) n6, upd_same, .cons rfl (.cons ⟨p5, vs, rfl, fun h => Trk.same sG (zt _ h) n5, y6 _ _ upd_same, (aD.less fun a h => .inr h).same y56⟩ .nil)⟩
end
end KL
end
section
set_option maxHeartbeats 1000000
namespace KL
open PySem PySem.Spec PyProof.Rows L2
theorem rep_none {K : PySem.W.Frag} {Z : Zone} {H : Hp} {l : Addr} {k : Int} {Q : VK} (hl : H l = some (.tup [.non])) (nl : ¬ Z l) (zt : ∀ a, Z a → Trk H a) (k0 : 0 ≤ k) (k1 : k ≤ 100) (q : ∀ v H', Same H H' → At Z H' (.tup (List.replicate k.toNat .non)) v → Q v H') : rRepN K (.ref l) (.int k) H Q := by
  have all : ∀ {H' : Hp}, AtAll Z H' (List.replicate k.toNat .non) (List.replicate k.toNat V.non) := fun {H'} => AtAll.rep (d := .non) rfl _
  refine ⟨l, k, [.non], rfl, rfl, .of hl, by omega, by omega, (by show 1 ≤ 1000; decide), fun er => ?_, fun p np => ?_⟩
  · rw [repV_single] at er
    refine q _ H (Same.refl H) ⟨l, _, rfl, nl, hl, ?_⟩
    rw [← er]; exact all
  · rw [repV_single]
    exact q _ _ (same_new np _) ⟨p, _, rfl, fun z => zt p z np, upd_same, all⟩
def padR (r : Th) : Th := .tup [endOf r, .tup (stepsOf r ++ List.replicate (8 - (stepsOf r).length) .non)]
theorem pad_mov (k : Int) (r : Th) : padR (movR k r) = blkR k r := by
  show Th.tup [endOf r, .tup ((stepsOf r).map (mvT k) ++ List.replicate (8 - ((stepsOf r).map (mvT k)).length) .non)] = _
  rw [List.length_map]; rfl
theorem und_pad (m0 m1 : Int) (rows1 rows2 : List Th) : undL m0 m1 rows1 rows2 = undR m0 m1 rows1.length :: ((rows1.map (movR (1 : Nat)) ++ rows2.map (movR ((1 + rows1.length : Nat) : Int))).map padR) := by
  unfold undL
  rw [List.map_append, List.map_map, List.map_map]
  congr 2
  · exact List.map_congr_left fun r _ => (pad_mov _ r).symm
  · exact List.map_congr_left fun r _ => (pad_mov _ r).symm
theorem beh_pad (rows1 rows2 : List Th) : behL rows1 rows2 = rows1.map (mkR rows1.length) ++ (rows2.map (movR (rows1.length : Nat))).map padR := by
  unfold behL
  rw [List.map_map]
  congr 1
  exact List.map_congr_left fun r _ => (pad_mov _ r).symm
def spUnder : Sp := fun vs H Q _ => ∃ (Z : Zone) (u v : V) (M : Addr) (z1 : Int) (rows1 : List Th) (z2 : Int) (rows2 : List Th) (m0 m1 : Int), vs = [u, v, .ref M] ∧ At Z H (.tup [.int z1, .tup rows1]) u ∧ At Z H (.tup [.int z2, .tup rows2]) v ∧ MOk z1 rows1 ∧ MOk z2 rows2 ∧ H M = some (.lst [.int m0, .int m1]) ∧ (∀ a, Z a → Trk H a) ∧
  ∀ w H', Same H H' → At Z H' (.tup [.int 8, .tup (undL m0 m1 rows1 rows2)]) w → Q w H'
def spBehind : Sp := fun vs H Q _ => ∃ (Z : Zone) (u v : V) (z1 : Int) (rows1 : List Th) (z2 : Int) (rows2 : List Th), vs = [u, v] ∧ At Z H (.tup [.int z1, .tup rows1]) u ∧ At Z H (.tup [.int z2, .tup rows2]) v ∧ MOk z1 rows1 ∧ MOk z2 rows2 ∧ z1 ≤ 7 ∧ (∀ a, Z a → Trk H a) ∧
  ∀ w H', Same H H' → At Z H' (.tup [.int 8, .tup (behL rows1 rows2)]) w → Q w H'
/-- a moved row as it lies -/
theorem row_mov {Z : Zone} {H : Hp} {z n : Int} {r : Th} {k : Int} {x : V} (h : At Z H (movR k r) x) (hr : rowB z n r = true) : ∃ pu ve ps vs2, x = .ref pu ∧ H pu = some (.tup [ve, .ref ps]) ∧ H ps = some (.tup vs2) ∧ At Z H (endOf r) ve ∧ (∀ Z' H', At Z' H' (endOf r) ve) ∧ At Z H (.tup ((stepsOf r).map (mvT k))) (.ref ps) ∧ vs2.length = (stepsOf r).length := by
  obtain ⟨e, ss, rfl, h1, h2, h3⟩ := rowB_is hr
  obtain ⟨pu, ve, w', rfl, ep, ha, hb⟩ := At.pair (show At Z H (.tup [e, .tup (ss.map (mvT k))]) x from h)
  obtain ⟨ps, vs2, rfl, nps, eps, av⟩ := id hb
  refine ⟨pu, ve, ps, vs2, rfl, ep, eps, ha, fun Z' H' => ?_, hb, by rw [av.len, List.length_map]; rfl⟩
  show At Z' H' e ve
  rcases h1 with rfl | ⟨i, rfl, _⟩
  · exact ha
  · exact ha
section
variable {P : Program} {w : World} {K : PySem.W.Frag} {mg : Str → Option Value} {base : Heap} {k : Nat} {t1 t2 t3 : Tok}
theorem ok_law_under (Z : Zs mg) (c_law_moved : Cal P w K mg base CX0 k "_law_moved" ["_law_rows", "_law_many"] spMoved) (d : Def K mg "_law_under" s_law_under ["_law_one", "_law_other", "_law_mores"]) : Cal P w K mg base CX0 (k + 1) "_law_under" ["_law_one", "_law_other", "_law_mores"] spUnder := by
  refine d.ok sc_law_under (fun vs H Q E h => ?_) (fun f cdv A outer s H vs Q E hr h => ?_)
  · obtain ⟨_, _, _, _, _, _, _, _, _, _, rfl, _⟩ := h; rfl
  obtain ⟨Zn, u, v, M, z1, rows1, z2, rows2, m0, m1, rfl, hu, hv, ok1, ok2, eM, zt, q⟩ := h
  refine ⟨_, (pss_cons (ps_set (i := 3) sc_law_under.nd rfl (Or.inl rfl) (pe_lst (pa_cons (pe_tup (pa_cons pe_non (pa_cons (pe_op op_catX (pe_tup (pa_cons (pe_tup (pa_cons (pe_ix ix_list (pv 2) pe_int (fun _ _ => rfl)) (pa_cons pe_int pa_nil))) (pa_cons (pe_tup (pa_cons (pe_ix ix_list (pv 2) pe_int (fun _ _ => rfl)) (pa_cons (pe_op op_add pe_int (pe_callB (id := "len") call_len_seq (by rfl) Z.len (by decide +kernel) (pa_cons (pe_ix ix_tup (pv 0) pe_int (fun _ _ => rfl)) pa_nil))) pa_nil))) pa_nil))) (pe_op op_repN (pe_tup (pa_cons pe_non pa_nil)) pe_int)) pa_nil))) pa_nil)))
      (pss_cons (ps_for PassesOwn.never rfl (pi_list (pe_op op_cat (pe_cal c_law_moved hr (by rfl) (pa_cons (pe_ix ix_tup (pv 0) pe_int (fun _ _ => rfl)) (pa_cons pe_int pa_nil))) (pe_cal c_law_moved hr (by rfl) (pa_cons (pe_ix ix_tup (pv 1) pe_int (fun _ _ => rfl)) (pa_cons (pe_op op_add pe_int (pe_callB (id := "len") call_len_seq (by rfl) Z.len (by decide +kernel) (pa_cons (pe_ix ix_tup (pv 0) pe_int (fun _ _ => rfl)) pa_nil))) pa_nil))))) (pg_tup (by rfl) (pgs_cons (pg_name (i := 4) sc_law_under.nd rfl (Or.inl rfl)) (pgs_cons (pg_name (i := 5) sc_law_under.nd rfl (Or.inl rfl)) pgs_nil))) (pss_one (ps_expr (pe_bm PySem.F.plainAttrs_list PySem.F.slot_list_append PySem.F.type_list_append mt_append (pv 3) (pa_cons (pe_tup (pa_cons (pv 4) (pa_cons (pe_op op_catX (pv 5) (pe_op op_repN (pe_tup (pa_cons pe_non pa_nil)) (pe_op op_sub pe_int (pe_callB (id := "len") call_len_seq (by rfl) Z.len (by decide +kernel) (pa_cons (pv 5) pa_nil))))) pa_nil))) pa_nil)))))
      (pss_one (ps_ret (pe_tup (pa_cons pe_int (pa_cons (pe_callTy (T := "tuple") call_tuple_of (by rfl) Z.tuple (by decide +kernel) (pa_cons (pv 3) pa_nil)) pa_nil))))))), ?_⟩
  have n30 := ok1.n30
  have n30' := ok2.n30
  have z8 := ok1.z8
  have z8' := ok2.z8
  have k1 := ok1.n1
  obtain ⟨p, pr, us, rfl, ep, epr, ar, _⟩ := At.mach hu
  obtain ⟨p', pr', us', rfl, ep', epr', ar', _⟩ := At.mach hv
  have lu := ar.len
  have lu' := ar'.len
  have out : ∀ {t : Addr} {Ha : Hp}, Same H Ha → Ha t = none → ¬ Zn t := fun s n h => Trk.same s (zt _ h) n
  refine ⟨_, rfl, M, _, 0, _, rfl, rfl, .inl (.of eM), atI_nat (j := 0) rfl, (by show 2 ≤ sizeLine; decide), fun a1 b1 => ?_⟩
  have y1 := same_new b1 (.tup [V.int m0, V.int 1])
  refine ⟨_, rfl, M, _, 1, _, rfl, rfl, .inl (.of (y1 _ _ eM)), atI_nat (j := 1) rfl, _, rfl, p, _, 1, .ref pr, rfl, rfl, .of (y1 _ _ ep), rfl, pr, us, rfl, .inr (.of (y1 _ _ epr)), _, _, rfl, rfl, (by show 2 ≤ sizeLine; decide), fun a2 b2 => ?_⟩
  rw [lu]
  have y2 := same_new b2 (.tup [V.int m1, V.int (1 + (rows1.length : Nat))])
  refine ⟨(by show 2 ≤ sizeLine; decide), fun a3 b3 => ⟨(by show 1 ≤ sizeLine; decide), fun a4 b4 => ?_⟩⟩
  have y3 := same_new b3 (.tup [V.ref a1, V.ref a2])
  have y4 := same_new b4 (.tup [V.non])
  have c2 := y1.trans y2
  have c3 := c2.trans y3
  have c4 := c3.trans y4
  have g1 := ((y2.trans y3).trans y4) _ _ (upd_same (H := H) (a := a1) (o := .tup [V.int m0, V.int 1]))
  have g2 := (y3.trans y4) _ _ (upd_same (a := a2) (o := .tup [V.int m1, V.int (1 + (rows1.length : Nat))]) (H := upd H a1 (.tup [V.int m0, V.int 1])))
  have g3 := y4 _ _ (upd_same (a := a3) (o := .tup [V.ref a1, V.ref a2]) (H := upd (upd H a1 (.tup [V.int m0, V.int 1])) a2 (.tup [V.int m1, V.int (1 + (rows1.length : Nat))])))
  have g4 : (upd (upd (upd (upd H a1 (.tup [V.int m0, V.int 1])) a2 (.tup [V.int m1, V.int (1 + (rows1.length : Nat))])) a3 (.tup [V.ref a1, V.ref a2])) a4 (.tup [V.non])) a4 = some (.tup [V.non]) := upd_same
  have o1 : ¬ Zn a1 := out (Same.refl _) b1
  have o2 : ¬ Zn a2 := out y1 b2
  have o3 : ¬ Zn a3 := out c2 b3
  have o4 : ¬ Zn a4 := out c3 b4
  generalize upd (upd (upd (upd H a1 (.tup [V.int m0, V.int 1])) a2 (.tup [V.int m1, V.int (1 + (rows1.length : Nat))])) a3 (.tup [V.ref a1, V.ref a2])) a4 (.tup [V.non]) = H4 at *
  dsimp only [tC]
  refine rep_none (k := 6) g4 o4 (fun a h => Trk.same c4 (zt a h)) (by decide) (by decide) fun v5 H5 s5 a5 => ?_
  have c5 := c4.trans s5
  have hd : At Zn H5 (.tup [.tup [.int m0, .int 1], .tup [.int m1, .int (1 + (rows1.length : Nat))]]) (.ref a3) := ⟨a3, _, rfl, o3, s5 _ _ g3, .cons ⟨a1, _, rfl, o1, s5 _ _ g1, .cons rfl (.cons rfl .nil)⟩ (.cons ⟨a2, _, rfl, o2, s5 _ _ g2, .cons rfl (.cons rfl .nil)⟩ .nil)⟩
  refine ⟨Zn, _, _, hd, a5, fun a h => Trk.same c5 (zt a h), (by show 2 + (List.replicate 6 Th.non).length ≤ 1000000; decide), fun v6 H6 s6 a6 => ?_⟩
  have c6 := c5.trans s6
  refine ⟨(by show 2 ≤ sizeLine; decide), fun a7 b7 => ⟨(by show 1 ≤ sizeLine; decide), fun R nR => ?_⟩⟩
  have y7 := same_new b7 (.tup [V.non, v6])
  have yR := same_new nR (.lst [V.ref a7])
  have c7 := c6.trans y7
  have cR := c7.trans yR
  have nRH : H R = none := Same.free c7 nR
  have first : At (fun a => a = R ∨ Zn a) (upd (upd H6 a7 (.tup [V.non, v6])) R (.lst [V.ref a7])) (undR m0 m1 rows1.length) (.ref a7) := by
    have a6' : At (fun a => a = R ∨ Zn a) (upd (upd H6 a7 (.tup [V.non, v6])) R (.lst [V.ref a7])) (.tup (.tup [.int m0, .int 1] :: .tup [.int m1, .int (1 + (rows1.length : Int))] :: List.replicate 6 .non)) v6 := At.step (.of (y7.trans yR)) (fun a na tr h => h.elim (fun e => Trk.same y7 tr (by rw [e]; exact nR)) na) a6
    refine ⟨a7, _, rfl, fun h => ?_, yR _ _ upd_same, .cons rfl (.cons a6' .nil)⟩
    rcases h with e | h
    · rw [← e, upd_same] at nR; cases nR
    · exact Trk.same c6 (zt _ h) b7
  have eR : (upd (upd H6 a7 (.tup [V.non, v6])) R (.lst [V.ref a7])) R = some (.lst [V.ref a7]) := upd_same
  generalize upd (upd H6 a7 (.tup [V.non, v6])) R (.lst [V.ref a7]) = H7 at *
  -- the rows
  refine ⟨_, rfl, p, _, 1, .ref pr, rfl, rfl, .of (cR _ _ ep), rfl, Zn, pr, us, z1, rows1, 1, rfl, cR _ _ epr, ar.same cR, ok1, by decide, fun N1 H8 v8 s8 n8 e8 a8 => ?_⟩
  have c8 := cR.trans s8
  refine ⟨_, rfl, p', _, 1, .ref pr', rfl, rfl, .of (c8 _ _ ep'), rfl, _, rfl, p, _, 1, .ref pr, rfl, rfl, .of (c8 _ _ ep), rfl, pr, us, rfl, .inr (.of (c8 _ _ epr)), _, _, rfl, rfl, Zn, pr', us', z2, rows2, 1 + rows1.length, (by rw [lu]; rfl), c8 _ _ epr', ar'.same c8, ok2, by omega, fun N2 H9 v9 s9 n9 e9 a9 => ?_⟩
  have c9 := c8.trans s9
  have l8 := a8.len
  have l9 := a9.len
  rw [List.length_map] at l8 l9
  refine ⟨N1, N2, _, _, rfl, rfl, s9 _ _ e8, e9, by rw [l8, l9, sizeLine_eq]; omega, fun C nC => ?_⟩
  have yC := same_new nC (.lst (v8 ++ v9))
  have cC := c9.trans yC
  have eRC := yC _ _ (s9 _ _ (s8 _ _ eR))
  have nCR : C ≠ R := fun h => by rw [h, s9 _ _ (s8 _ _ eR)] at nC; cases nC
  have aC : AtAll (fun a => a = R ∨ Zn a) (upd H9 C (.lst (v8 ++ v9))) (rows1.map (movR (1 : Nat)) ++ rows2.map (movR ((1 + rows1.length : Nat) : Int))) (v8 ++ v9) := by
    refine AtAll.append ?_ ?_
    · refine ((a8.less fun a h => .inr ?_).same s9).same yC
      rcases h with rfl | h
      · exact .of eR
      · exact Trk.same cR (zt _ h)
    · refine (a9.less fun a h => .inr ?_).same yC
      rcases h with rfl | h
      · exact .of (s8 _ _ eR)
      · exact Trk.same c8 (zt _ h)
  have eC : (upd H9 C (.lst (v8 ++ v9))) C = some (.lst (v8 ++ v9)) := upd_same
  generalize upd H9 C (.lst (v8 ++ v9)) = HC at *
  refine ⟨C, rfl, ⟨_, .of eC⟩, for_list (xs := v8 ++ v9) (fun i σ' G => SB (fun a => a = R) HC G ∧ ∃ (vs : List V) (y4 y5 : Option V), σ' = [some (.ref p), some (.ref p'), some (.ref M), some (.ref R), y4, y5] ∧ G R = some (.lst vs) ∧ AtAll (fun a => a = R ∨ Zn a) G (undR m0 m1 rows1.length :: ((rows1.map (movR (1 : Nat)) ++ rows2.map (movR ((1 + rows1.length : Nat) : Int))).take i).map padR) vs)
    ⟨.rfl', [V.ref a7], none, none, rfl, eRC, .cons ((first.same s8).same s9 |>.same yC) .nil⟩ (fun i σ' G _ hh => .of (hh.1 _ _ nCR eC)) (fun i x σ' G ex hh => ?_) (fun σ' G hh => ?_)⟩
  · obtain ⟨sG, vs, y4, y5, rfl, eR', aR⟩ := hh
    obtain ⟨r, er, hx⟩ := (aC.sb (sG.mono fun _ h => .inl h)).get ex
    have hm := List.mem_of_getElem? er
    have hi := (List.getElem?_eq_some_iff.mp er).1
    rw [List.length_append, List.length_map, List.length_map] at hi
    obtain ⟨z, n, r0, kk, rfl, hr, hz⟩ : ∃ (z n : Int) (r0 : Th) (kk : Int), r = movR kk r0 ∧ rowB z n r0 = true ∧ (stepsOf r0).length ≤ 8 := by
      rcases List.mem_append.mp hm with hm | hm
      · obtain ⟨r0, m, rfl⟩ := List.mem_map.mp hm
        have h := ok1.r _ m
        obtain ⟨_, _, rfl, _, h2, _⟩ := rowB_is h
        exact ⟨_, _, _, _, rfl, h, by show (List.length _ : Nat) ≤ 8; simp only [stepsOf]; omega⟩
      · obtain ⟨r0, m, rfl⟩ := List.mem_map.mp hm
        have h := ok2.r _ m
        obtain ⟨_, _, rfl, _, h2, _⟩ := rowB_is h
        exact ⟨_, _, _, _, rfl, h, by show (List.length _ : Nat) ≤ 8; simp only [stepsOf]; omega⟩
    obtain ⟨pu, ve, ps, vs2, rfl, x2, x3, x4, x5, x6, x7⟩ := row_mov hx hr
    have zt' : ∀ a, (a = R ∨ Zn a) → Trk G a := fun a h => by
      by_cases e : a = R
      · rw [e]; exact .of eR'
      · exact fun hn => absurd (Trk.same cC (zt _ (h.resolve_left e))) fun t => t (by
          cases ho : HC a with
          | none => rfl
          | some o => rw [sG _ _ e ho] at hn; cases hn)
    refine ⟨pu, _, rfl, .of x2, rfl, _, _, rfl, _, _, rfl, rfl, ?_⟩
    refine ⟨_, rfl, .inl ⟨rfl, _, .inl (.inl eR')⟩, _, rfl, _, rfl, (by show 1 ≤ sizeLine; decide), fun b1 nb1 => ?_⟩
    have u1 := same_new nb1 (.tup [V.non])
    refine ⟨_, rfl, ps, vs2, rfl, .inr (.of (u1 _ _ x3)), _, _, rfl, rfl, ?_⟩
    rw [x7]
    refine rep_none (Z := fun a => a = R ∨ Zn a) (k := (8 : Int) - ((stepsOf r0).length : Nat)) upd_same (fun h => Trk.not nb1 (zt' _ h)) (fun a h => Trk.same u1 (zt' _ h)) (by omega) (by omega) fun v2 G2 s2 a2 => ?_
    have u2 := u1.trans s2
    refine ⟨fun a => a = R ∨ Zn a, _, _, x6.same u2, a2, fun a h => Trk.same u2 (zt' _ h), (by rw [List.length_map, List.length_replicate]; omega), fun v3 G3 s3 a3 => ?_⟩
    have u3 := u2.trans s3
    refine ⟨(by show 2 ≤ sizeLine; decide), fun b4 nb4 => ?_⟩
    have y4 := same_new nb4 (.tup [ve, v3])
    have u4 := u3.trans y4
    have eR4 := u4 _ _ eR'
    refine ⟨R, vs, _, rfl, rfl, eR4, (by rw [aR.len, List.length_cons, List.length_map, List.length_take, sizeLine_eq]; omega), ?_⟩
    have sD : SB (fun a => a = R) (upd G3 b4 (.tup [ve, v3])) (upd (upd G3 b4 (.tup [ve, v3])) R (.lst (vs ++ [.ref b4]))) := .self (Z := fun a => a = R) rfl _
    have sD' := sD.mono (Z' := fun a => a = R ∨ Zn a) fun _ h => .inl h
    refine ⟨(sG.trans (.of u4)).trans sD, _, _, _, rfl, upd_same, ?_⟩
    rw [List.take_add_one, er, List.map_append, ← List.cons_append]
    refine ((aR.same u4).sb sD').append (.cons (At.sb sD' ?_) .nil)
    rw [pad_mov]
    refine ⟨b4, _, rfl, fun h => Trk.not nb4 (Trk.same u3 (zt' _ h)), upd_same, .cons (x5 _ _) (.cons ?_ .nil)⟩
    have a4 := a3.same y4
    rwa [show ((8 : Int) - ((stepsOf r0).length : Nat)).toNat = 8 - (stepsOf r0).length by omega] at a4
  · obtain ⟨sG, vs, y4, y5, rfl, eR', aR⟩ := hh
    have lC := aC.len
    rw [lC, List.take_length, ← und_pad] at aR
    refine ⟨_, rfl, R, vs, rfl, .inl ⟨.of eR', fun p5 n5 => ⟨(by show 2 ≤ sizeLine; decide), fun p6 n6 => ?_⟩⟩⟩
    have y5' := same_new n5 (.tup vs)
    have y6 := same_new n6 (.tup [.int 8, .ref p5])
    have y56 := y5'.trans y6
    have ztG : ∀ a, Zn a → Trk G a := fun a h => by
      have ho := zt a h
      have e : a ≠ R := fun e => Trk.not nRH (by rw [← e]; exact ho)
      exact fun hn => absurd (Trk.same cC ho) fun t => t (by
        cases hc : HC a with
        | none => rfl
        | some o => rw [sG _ _ e hc] at hn; cases hn)
    refine q _ _ ?_ ⟨p6, _, rfl, fun h => Trk.not n6 (Trk.same y5' (ztG _ h)), upd_same, .cons rfl (.cons ⟨p5, vs, rfl, fun h => Trk.not n5 (ztG _ h), y6 _ _ upd_same, (aR.less fun a h => .inr h).same y56⟩ .nil)⟩
    intro a o ho
    have e : a ≠ R := fun e => by rw [e, nRH] at ho; cases ho
    exact y56 _ _ (sG _ _ e (cC _ _ ho))
end
end KL
end
section
set_option maxHeartbeats 1000000
namespace KL
open PySem PySem.Spec PyProof.Rows L2
theorem asg_share {te : TE} {i : Nat} {B : TS} {D : Ends} {σ : L2.St} {H : Hp} (P : V → Hp → Prop) (hA : ∀ Q' : VK, (∀ m G, P m G → Q' m G) → te σ H Q') (hB : ∀ m G, P m G → B D (σ.set i (some m)) G) : tSeq (tAsg te (gName i)) B D σ H := hA _ hB
section
variable {P : Program} {w : World} {K : PySem.W.Frag} {mg : Str → Option Value} {base : Heap} {k : Nat} {t1 t2 t3 : Tok}
theorem ok_law_behind (Z : Zs mg) (c_law_moved : Cal P w K mg base CX0 k "_law_moved" ["_law_rows", "_law_many"] spMoved) (d : Def K mg "_law_behind" s_law_behind ["_law_one", "_law_other"]) : Cal P w K mg base CX0 (k + 1) "_law_behind" ["_law_one", "_law_other"] spBehind := by
  refine d.ok sc_law_behind (fun vs H Q E h => ?_) (fun f cdv A outer s H vs Q E hr h => ?_)
  · obtain ⟨_, _, _, _, _, _, _, rfl, _⟩ := h; rfl
  obtain ⟨Zn, u, v, z1, rows1, z2, rows2, rfl, hu, hv, ok1, ok2, z7, zt, q⟩ := h
  refine ⟨_, (pss_cons (ps_set (i := 2) sc_law_behind.nd rfl (Or.inl rfl) (pe_lst pa_nil))
      (pss_cons (ps_for PassesOwn.never rfl (pi_tup (pe_ix ix_tup (pv 0) pe_int (fun _ _ => rfl))) (pg_tup (by rfl) (pgs_cons (pg_name (i := 3) sc_law_behind.nd rfl (Or.inl rfl)) (pgs_cons (pg_name (i := 4) sc_law_behind.nd rfl (Or.inl rfl)) pgs_nil))) (pss_cons (ps_set (i := 5) sc_law_behind.nd rfl (Or.inl rfl) (pe_ifExp (pt_cmpR op_isN (pv 3) pe_non (nomark _)) pe_non (pe_tup (pa_cons (pv 3) (pa_cons (pe_callB (id := "len") call_len_seq (by rfl) Z.len (by decide +kernel) (pa_cons (pe_ix ix_tup (pv 0) pe_int (fun _ _ => rfl)) pa_nil)) pa_nil)))))
      (pss_one (ps_expr (pe_bm PySem.F.plainAttrs_list PySem.F.slot_list_append PySem.F.type_list_append mt_append (pv 2) (pa_cons (pe_tup (pa_cons pe_non (pa_cons (pe_op op_catX (pe_op op_catX (pv 4) (pe_op op_repN (pe_tup (pa_cons pe_non pa_nil)) (pe_op op_sub pe_int (pe_callB (id := "len") call_len_seq (by rfl) Z.len (by decide +kernel) (pa_cons (pv 4) pa_nil))))) (pe_tup (pa_cons (pv 5) pa_nil))) pa_nil))) pa_nil))))))
      (pss_cons (ps_for PassesOwn.never rfl (pi_list (pe_cal c_law_moved hr (by rfl) (pa_cons (pe_ix ix_tup (pv 1) pe_int (fun _ _ => rfl)) (pa_cons (pe_callB (id := "len") call_len_seq (by rfl) Z.len (by decide +kernel) (pa_cons (pe_ix ix_tup (pv 0) pe_int (fun _ _ => rfl)) pa_nil)) pa_nil)))) (pg_tup (by rfl) (pgs_cons (pg_name (i := 3) sc_law_behind.nd rfl (Or.inl rfl)) (pgs_cons (pg_name (i := 4) sc_law_behind.nd rfl (Or.inl rfl)) pgs_nil))) (pss_one (ps_expr (pe_bm PySem.F.plainAttrs_list PySem.F.slot_list_append PySem.F.type_list_append mt_append (pv 2) (pa_cons (pe_tup (pa_cons (pv 3) (pa_cons (pe_op op_catX (pv 4) (pe_op op_repN (pe_tup (pa_cons pe_non pa_nil)) (pe_op op_sub pe_int (pe_callB (id := "len") call_len_seq (by rfl) Z.len (by decide +kernel) (pa_cons (pv 4) pa_nil))))) pa_nil))) pa_nil)))))
      (pss_one (ps_ret (pe_tup (pa_cons pe_int (pa_cons (pe_callTy (T := "tuple") call_tuple_of (by rfl) Z.tuple (by decide +kernel) (pa_cons (pv 2) pa_nil)) pa_nil)))))))), ?_⟩
  have n30 := ok1.n30
  have n30' := ok2.n30
  have z8' := ok2.z8
  have k1 := ok1.n1
  obtain ⟨p, pr, us, rfl, ep, epr, ar, npr⟩ := At.mach hu
  obtain ⟨p', pr', us', rfl, ep', epr', ar', _⟩ := At.mach hv
  have lu := ar.len
  have lu' := ar'.len
  refine ⟨(by show 0 ≤ sizeLine; decide), fun R nR => ?_⟩
  have yR := same_new nR (.lst [])
  have eR0 : (upd H R (.lst [])) R = some (.lst []) := upd_same
  generalize upd H R (.lst []) = HR at *
  refine ⟨_, rfl, p, _, 1, _, rfl, rfl, .of (yR _ _ ep), rfl, pr, rfl, ⟨_, .of (yR _ _ epr)⟩, ?_⟩
  refine for_tup (xs := us) (fun i σ' G => Same HR HR ∧ SB (fun a => a = R) HR G ∧ ∃ (vs : List V) (y3 y4 y5 : Option V), σ' = [some (.ref p), some (.ref p'), some (.ref R), y3, y4, y5] ∧ G R = some (.lst vs) ∧ AtAll (fun a => a = R ∨ Zn a) G ((rows1.take i).map (mkR rows1.length)) vs) ⟨Same.refl _, .rfl', [], none, none, none, rfl, eR0, .nil⟩ (fun i σ' G _ hh => .of (hh.2.1 _ _ (fun h => by rw [h] at epr; rw [epr] at nR; cases nR) (yR _ _ epr))) (fun i x σ' G ex hh => ?_) (fun σ' G hh => ?_)
  · obtain ⟨_, sG, vs, y3, y4, y5, rfl, eR', aR⟩ := hh
    have hi : i < rows1.length := by rw [← lu]; exact (List.getElem?_eq_some_iff.mp ex).1
    have arR : AtAll (fun a => a = R ∨ Zn a) HR rows1 us := ar.step (.of yR) fun a na tr h => h.elim (fun e => tr (by rw [e]; exact nR)) na
    obtain ⟨pu, ve, ps, vs2, e, ss, b1, b2, b3, b4, b5, b6, b7, b8, b9⟩ := row_at (arR.sb (sG.mono fun _ h => .inl h)) ok1 hi
    rw [b1] at ex
    cases ex
    have ls := b8.len
    refine ⟨pu, _, rfl, .of b2, rfl, _, _, rfl, _, _, rfl, rfl, ?_⟩
    have zt' : ∀ a, (a = R ∨ Zn a) → Trk G a := fun a h => by
      by_cases e : a = R
      · rw [e]; exact .of eR'
      · exact fun hn => absurd (Trk.same yR (zt _ (h.resolve_left e))) fun t => t (by
          cases ho : HR a with
          | none => rfl
          | some o => rw [sG _ _ e ho] at hn; cases hn)
    have epG := sG _ _ (fun h => by rw [h] at ep; rw [ep] at nR; cases nR) (yR _ _ ep)
    have eprG := sG _ _ (fun h => by rw [h] at epr; rw [epr] at nR; cases nR) (yR _ _ epr)
    refine asg_share (fun m G' => Same G G' ∧ At (fun a => a = R ∨ Zn a) G' (markT rows1.length e) m) (fun Q' hQ => ?_) (fun m G1 hm => ?_)
    · rcases b6 with ⟨rfl, rfl⟩ | ⟨i, rfl, rfl⟩
      · exact ⟨_, rfl, rfl, _, rfl, iteT (hQ .non G ⟨Same.refl _, rfl⟩)⟩
      · refine ⟨_, rfl, rfl, _, rfl, iteF ⟨_, rfl, _, rfl, p, _, 1, .ref pr, rfl, rfl, .of epG, rfl, pr, us, rfl, .inr (.of eprG), (by show 2 ≤ sizeLine; decide), fun p9 n9 => hQ _ _ ⟨same_new n9 _, ?_⟩⟩⟩
        exact ⟨p9, _, rfl, fun h => Trk.not n9 (zt' _ h), upd_same, .cons rfl (.cons (by show V.int _ = V.int _; rw [lu]) .nil)⟩
    · obtain ⟨s1, am⟩ := hm
      have nps : ¬ (ps = R ∨ Zn ps) := by
        obtain ⟨_, hx⟩ := (arR.sb (sG.mono fun _ h => .inl h)).at b4
        obtain ⟨e1, hx⟩ := hx
        rw [b1] at e1
        cases e1
        obtain ⟨_, _, _, e2, e3, _, hw⟩ := hx.pair
        cases e2
        rw [b2] at e3
        cases e3
        obtain ⟨_, _, e4, n, _⟩ := hw
        cases e4
        exact n
      refine ⟨_, rfl, .inl ⟨rfl, _, .inl (.inl (s1 _ _ eR'))⟩, _, rfl, (by show 1 ≤ sizeLine; decide), fun c1 nc1 => ?_⟩
      have u1 := s1.trans (same_new nc1 (.tup [V.non]))
      refine ⟨_, rfl, ps, vs2, rfl, .inr (.of (u1 _ _ b3)), _, _, rfl, rfl, ?_⟩
      rw [ls]
      refine rep_none (Z := fun a => a = R ∨ Zn a) (k := (7 : Int) - (ss.length : Nat)) upd_same (fun h => Trk.not nc1 (Trk.same s1 (zt' _ h))) (fun a h => Trk.same u1 (zt' _ h)) (by omega) (by omega) fun v2 G2 s2 a2 => ?_
      have u2 := u1.trans s2
      have aS : At (fun a => a = R ∨ Zn a) G2 (.tup ss) (.ref ps) := ⟨ps, vs2, rfl, nps, u2 _ _ b3, b8.same u2⟩
      refine ⟨fun a => a = R ∨ Zn a, _, _, aS, a2, fun a h => Trk.same u2 (zt' _ h), (by rw [List.length_replicate]; omega), fun v3 G3 s3 a3 => ?_⟩
      have u3 := u2.trans s3
      refine ⟨_, rfl, (by show 1 ≤ sizeLine; decide), fun c4 nc4 => ?_⟩
      have y4' := same_new nc4 (.tup [m])
      have u4 := u3.trans y4'
      have aM : At (fun a => a = R ∨ Zn a) (upd G3 c4 (.tup [m])) (.tup [markT rows1.length e]) (.ref c4) := ⟨c4, _, rfl, fun h => Trk.not nc4 (Trk.same u3 (zt' _ h)), upd_same, .cons (am.same (((same_new nc1 _).trans s2).trans (s3.trans y4'))) .nil⟩
      refine ⟨fun a => a = R ∨ Zn a, _, _, a3.same y4', aM, fun a h => Trk.same u4 (zt' _ h), (by rw [List.length_append, List.length_replicate]; show _ + 1 ≤ _; omega), fun v5 G5 s5 a5 => ?_⟩
      have u5 := u4.trans s5
      refine ⟨(by show 2 ≤ sizeLine; decide), fun c6 nc6 => ?_⟩
      have y6 := same_new nc6 (.tup [V.non, v5])
      have u6 := u5.trans y6
      refine ⟨R, vs, _, rfl, rfl, u6 _ _ eR', (by rw [aR.len, List.length_map, List.length_take, sizeLine_eq]; omega), ?_⟩
      have sD : SB (fun a => a = R) (upd G5 c6 (.tup [V.non, v5])) (upd (upd G5 c6 (.tup [V.non, v5])) R (.lst (vs ++ [.ref c6]))) := .self (Z := fun a => a = R) rfl _
      have sD' := sD.mono (Z' := fun a => a = R ∨ Zn a) fun _ h => .inl h
      refine ⟨Same.refl _, (sG.trans (.of u6)).trans sD, _, _, _, _, rfl, upd_same, ?_⟩
      rw [List.take_add_one, b4, List.map_append]
      refine ((aR.same u6).sb sD').append (.cons (At.sb sD' ?_) .nil)
      refine ⟨c6, _, rfl, fun h => Trk.not nc6 (Trk.same u5 (zt' _ h)), upd_same, .cons rfl (.cons ?_ .nil)⟩
      have a6 := a5.same y6
      rw [List.append_assoc, show ((7 : Int) - (ss.length : Nat)).toNat = 7 - ss.length by omega] at a6
      exact a6
  · obtain ⟨_, sG, vs, y3, y4, y5, rfl, eR', aR⟩ := hh
    rw [lu, List.take_length] at aR
    have nn : ∀ {a o}, H a = some o → a ≠ R := fun e h => by rw [h] at e; rw [e] at nR; cases nR
    have old : ∀ {a o}, H a = some o → G a = some o := fun e => sG _ _ (nn e) (yR _ _ e)
    have sHG : Same H G := fun a o e => old e
    refine ⟨_, rfl, p', _, 1, .ref pr', rfl, rfl, .of (old ep'), rfl, _, rfl, p, _, 1, .ref pr, rfl, rfl, .of (old ep), rfl, pr, us, rfl, .inr (.of (old epr)), Zn, pr', us', z2, rows2, rows1.length, (by rw [lu]; rfl), old epr', ar'.same sHG, ok2, by omega, fun N2 HC v9 s9 n9 e9 a9 => ?_⟩
    have aR9 := aR.same s9
    have eR9 := s9 _ _ eR'
    have l9 := a9.len
    rw [List.length_map] at l9
    have nCR : N2 ≠ R := fun h => by rw [h, eR'] at n9; cases n9
    have aC : AtAll (fun a => a = R ∨ Zn a) HC (rows2.map (movR (rows1.length : Nat))) v9 := by
      refine a9.less fun a h => .inr ?_
      rcases h with rfl | h
      · exact .of eR'
      · exact Trk.same sHG (zt _ h)
    have nRH := nR
    have cC : Same H HC := sHG.trans s9
    clear aR eR' sG
    clear old sHG
    refine ⟨N2, rfl, ⟨_, .of e9⟩, for_list (xs := v9) (fun i σ' G => SB (fun a => a = R) HC G ∧ ∃ (vs : List V) (yA yB : Option V), σ' = [some (.ref p), some (.ref p'), some (.ref R), yA, yB, y5] ∧ G R = some (.lst vs) ∧ AtAll (fun a => a = R ∨ Zn a) G (rows1.map (mkR rows1.length) ++ ((rows2.map (movR (rows1.length : Nat))).take i).map padR) vs)
      ⟨.rfl', vs, y3, y4, rfl, eR9, by rw [List.take_zero, List.map_nil, List.append_nil]; exact aR9⟩ (fun i σ' G _ hh => .of (hh.1 _ _ nCR e9)) (fun i x σ' G ex hh => ?_) (fun σ' G hh => ?_)⟩
    · obtain ⟨sG, vs, yA, yB, rfl, eR', aR⟩ := hh
      obtain ⟨r, er, hx⟩ := (aC.sb (sG.mono fun _ h => .inl h)).get ex
      have hm := List.mem_of_getElem? er
      have hi := (List.getElem?_eq_some_iff.mp er).1
      rw [List.length_map] at hi
      obtain ⟨z, n, r0, kk, rfl, hr, hz⟩ : ∃ (z n : Int) (r0 : Th) (kk : Int), r = movR kk r0 ∧ rowB z n r0 = true ∧ (stepsOf r0).length ≤ 8 := by
        obtain ⟨r0, m, rfl⟩ := List.mem_map.mp hm
        have h := ok2.r _ m
        obtain ⟨_, _, rfl, _, h2, _⟩ := rowB_is h
        exact ⟨_, _, _, _, rfl, h, by show (List.length _ : Nat) ≤ 8; simp only [stepsOf]; omega⟩
      obtain ⟨pu, ve, ps, vs2, rfl, x2, x3, x4, x5, x6, x7⟩ := row_mov hx hr
      have zt' : ∀ a, (a = R ∨ Zn a) → Trk G a := fun a h => by
        by_cases e : a = R
        · rw [e]; exact .of eR'
        · exact fun hn => absurd (Trk.same cC (zt _ (h.resolve_left e))) fun t => t (by
            cases ho : HC a with
            | none => rfl
            | some o => rw [sG _ _ e ho] at hn; cases hn)
      refine ⟨pu, _, rfl, .of x2, rfl, _, _, rfl, _, _, rfl, rfl, ?_⟩
      refine ⟨_, rfl, .inl ⟨rfl, _, .inl (.inl eR')⟩, _, rfl, _, rfl, (by show 1 ≤ sizeLine; decide), fun b1 nb1 => ?_⟩
      have u1 := same_new nb1 (.tup [V.non])
      refine ⟨_, rfl, ps, vs2, rfl, .inr (.of (u1 _ _ x3)), _, _, rfl, rfl, ?_⟩
      rw [x7]
      refine rep_none (Z := fun a => a = R ∨ Zn a) (k := (8 : Int) - ((stepsOf r0).length : Nat)) upd_same (fun h => Trk.not nb1 (zt' _ h)) (fun a h => Trk.same u1 (zt' _ h)) (by omega) (by omega) fun v2 G2 s2 a2 => ?_
      have u2 := u1.trans s2
      refine ⟨fun a => a = R ∨ Zn a, _, _, x6.same u2, a2, fun a h => Trk.same u2 (zt' _ h), (by rw [List.length_map, List.length_replicate]; omega), fun v3 G3 s3 a3 => ?_⟩
      have u3 := u2.trans s3
      refine ⟨(by show 2 ≤ sizeLine; decide), fun b4 nb4 => ?_⟩
      have y4 := same_new nb4 (.tup [ve, v3])
      have u4 := u3.trans y4
      have eR4 := u4 _ _ eR'
      refine ⟨R, vs, _, rfl, rfl, eR4, (by rw [aR.len, List.length_append, List.length_map, List.length_map, List.length_take, sizeLine_eq]; omega), ?_⟩
      have sD : SB (fun a => a = R) (upd G3 b4 (.tup [ve, v3])) (upd (upd G3 b4 (.tup [ve, v3])) R (.lst (vs ++ [.ref b4]))) := .self (Z := fun a => a = R) rfl _
      have sD' := sD.mono (Z' := fun a => a = R ∨ Zn a) fun _ h => .inl h
      refine ⟨(sG.trans (.of u4)).trans sD, _, _, _, rfl, upd_same, ?_⟩
      rw [List.take_add_one, er, List.map_append, ← List.append_assoc]
      refine ((aR.same u4).sb sD').append (.cons (At.sb sD' ?_) .nil)
      rw [pad_mov]
      refine ⟨b4, _, rfl, fun h => Trk.not nb4 (Trk.same u3 (zt' _ h)), upd_same, .cons (x5 _ _) (.cons ?_ .nil)⟩
      have a4 := a3.same y4
      rwa [show ((8 : Int) - ((stepsOf r0).length : Nat)).toNat = 8 - (stepsOf r0).length by omega] at a4
    · obtain ⟨sG, vs, yA, yB, rfl, eR', aR⟩ := hh
      have lC := aC.len
      rw [lC, List.take_length, ← beh_pad] at aR
      refine ⟨_, rfl, R, vs, rfl, .inl ⟨.of eR', fun p5 n5 => ⟨(by show 2 ≤ sizeLine; decide), fun p6 n6 => ?_⟩⟩⟩
      have y5' := same_new n5 (.tup vs)
      have y6 := same_new n6 (.tup [.int 8, .ref p5])
      have y56 := y5'.trans y6
      have ztG : ∀ a, Zn a → Trk G a := fun a h => by
        have ho := zt a h
        have e : a ≠ R := fun e => Trk.not nRH (by rw [← e]; exact ho)
        exact fun hn => absurd (Trk.same cC ho) fun t => t (by
          cases hc : HC a with
          | none => rfl
          | some o => rw [sG _ _ e hc] at hn; cases hn)
      refine q _ _ ?_ ⟨p6, _, rfl, fun h => Trk.not n6 (Trk.same y5' (ztG _ h)), upd_same, .cons rfl (.cons ⟨p5, vs, rfl, fun h => Trk.not n5 (ztG _ h), y6 _ _ upd_same, (aR.less fun a h => .inr h).same y56⟩ .nil)⟩
      intro a o ho
      have e : a ≠ R := fun e => by rw [e, nRH] at ho; cases ho
      exact y56 _ _ (sG _ _ e (cC _ _ ho))
end
end KL
end
section
set_option maxHeartbeats 1000000
namespace KL
open PySem PySem.Spec PyProof.Rows L2
theorem rep_any {K : PySem.W.Frag} {Z : Zone} {H : Hp} {l : Addr} {k : Int} {t : Th} {d : V} {Q : VK} (hl : H l = some (.tup [d])) (hd : At Z H t d) (nl : ¬ Z l) (zt : ∀ a, Z a → Trk H a) (k0 : 0 ≤ k) (k1 : k ≤ 100) (q : ∀ v H', Same H H' → At Z H' (.tup (List.replicate k.toNat t)) v → Q v H') : rRepN K (.ref l) (.int k) H Q := by
  have all : AtAll Z H (List.replicate k.toNat t) (List.replicate k.toNat d) := AtAll.rep hd _
  refine ⟨l, k, [d], rfl, rfl, .of hl, by omega, by omega, (by show 1 ≤ 1000; decide), fun er => ?_, fun p np => ?_⟩
  · rw [repV_single] at er
    refine q _ H (Same.refl H) ⟨l, _, rfl, nl, hl, ?_⟩
    rw [← er]; exact all
  · rw [repV_single]
    exact q _ _ (same_new np _) ⟨p, _, rfl, fun z => zt p z np, upd_same, all.same (same_new np _)⟩
/-- a row of the doubled machine -/
def TwR (rows : List Th) (s : Nat) (t : Th) : Prop := ∃ ss, t = .tup [enS rows s, .tup ss] ∧ SCs (fun u => u < 2 * rows.length) (fun u => u % rows.length) (stS rows s) ss
def Tw (rows ts : List Th) : Prop := ∀ u t, ts[u]? = some t → TwR rows (u % rows.length) t
theorem Tw.nil {rows : List Th} : Tw rows [] := fun u t h => by cases h
theorem Tw.snoc {rows ts : List Th} {t : Th} (h : Tw rows ts) (h2 : TwR rows (ts.length % rows.length) t) : Tw rows (ts ++ [t]) := fun u x e => by
  by_cases hu : u < ts.length
  · rw [List.getElem?_append_left hu] at e
    exact h u x e
  · rw [List.getElem?_append_right (by omega)] at e
    have : u - ts.length = 0 := by
      have := (List.getElem?_eq_some_iff.mp e).1
      rw [List.length_singleton] at this; omega
    rw [this] at e
    cases e
    rwa [show u = ts.length by omega]
theorem SCs.snoc {B : Nat → Prop} {π : Nat → Nat} {as bs : List Th} {a b : Th} (h : SCs B π as bs) (h2 : SC B π a b) : SCs B π (as ++ [a]) (bs ++ [b]) := by
  induction h with
  | nil => exact .cons h2 .nil
  | cons x _ ih => exact .cons x ih
theorem SCs.len {B : Nat → Prop} {π : Nat → Nat} {as bs : List Th} (h : SCs B π as bs) : as.length = bs.length := by
  induction h with
  | nil => rfl
  | cons x _ ih => rw [List.length_cons, List.length_cons, ih]
theorem TwR.row {z : Int} {rows : List Th} {s : Nat} {t : Th} (ok : MOk z rows) (hs : s < rows.length) (h : TwR rows s t) : rowB z ((2 * rows.length + 1 : Nat) : Int) t = true := by
  obtain ⟨ss, rfl, hc⟩ := h
  obtain ⟨e, ss0, er, h1, h2, h3⟩ := ok.row hs
  have e1 : enS rows s = e := by show endOf ((rows[s]?).getD .non) = e; rw [er]; rfl
  have e2 : stS rows s = ss0 := by show stepsOf ((rows[s]?).getD .non) = ss0; rw [er]; rfl
  rw [e1]
  rw [e2] at hc
  refine rowB_of h1 (by rw [← hc.len]; exact h2) fun b m => ?_
  obtain ⟨a, ma, hab⟩ := hc.mem2 m
  cases hab with
  | non => exact .inl rfl
  | tup m' t hb =>
    rcases h3 _ ma with h | ⟨m2, s2, e, c0, c1, _, _⟩
    · cases h
    · injection e with e
      injection e with e1 e2
      injection e1 with e1
      subst e1
      exact .inr ⟨m', t, rfl, c0, c1, by omega, by have : t < 2 * rows.length := hb; omega⟩
theorem twi_all {z : Int} {rows ts : List Th} (ok : MOk z rows) (h6 : rows.length ≤ 6) (ht : Tw rows ts) (lt : ts.length = 2 * rows.length) {last : Th} (hl : last = .tup [.int 1, .tup (List.replicate z.toNat (.tup [.int 0, .int 0]))]) : TwiceOf rows (ts ++ [last]) ∧ MOk z (ts ++ [last]) := by
  have n1 := ok.n1
  have z1 := ok.z1
  have z8 := ok.z8
  refine ⟨⟨by rw [List.length_append, lt]; rfl, fun u hu => ?_⟩, ⟨z1, z8, by rw [List.length_append]; omega, by rw [List.length_append, lt]; show _ + 1 ≤ 30; omega, fun r m => ?_⟩⟩
  · have hu' : u < ts.length := by omega
    obtain ⟨ss, e, h⟩ := ht u ts[u] (List.getElem?_eq_getElem hu')
    refine ⟨ss, ?_, h⟩
    show ((ts ++ [last])[u]?).getD .non = _
    rw [List.getElem?_append_left hu', List.getElem?_eq_getElem hu', ← e]; rfl
  · rw [show (((ts ++ [last]).length : Nat) : Int) = ((2 * rows.length + 1 : Nat) : Int) by rw [List.length_append, lt]; rfl]
    rcases List.mem_append.mp m with m | m
    · obtain ⟨u, hu, rfl⟩ := List.getElem_of_mem m
      exact (ht u ts[u] (List.getElem?_eq_getElem hu)).row ok (Nat.mod_lt _ (by omega))
    · rw [List.mem_singleton.mp m, hl]
      refine rowB_of (.inr ⟨1, rfl, by decide, by decide⟩) (by rw [List.length_replicate]; omega) fun b m => ?_
      rw [(List.mem_replicate.mp m).2]
      exact .inr ⟨0, 0, rfl, by decide, by decide, by decide, by omega⟩
abbrev sc_law_twiceN : List Str := ["_law_pot_here", "_law_machine_here", "_law_many", "_law_rows", "_law_turn", "_law_end", "_law_steps", "_law_later_here", "_law_step"]
abbrev s_law_twice : Stmt := topS 52
theorem sc_law_twice : FnScope ["_law_pot_here", "_law_machine_here", "_law_many", "_law_rows", "_law_turn", "_law_end", "_law_steps", "_law_later_here", "_law_step"] ["_law_pot_here", "_law_machine_here"] (defScope s_law_twice) := ⟨rfl, rfl, rfl, by decide +kernel, rfl, by decide +kernel, by decide +kernel⟩
def spTwice : Sp := fun vs H Q _ => ∃ (P0 G S : Addr) (u : V) (z : Int) (rows : List Th), vs = [.ref P0, u] ∧ PotAt P0 G S H ∧ At (AtP P0 G) H (.tup [.int z, .tup rows]) u ∧ MOk z rows ∧ rows.length ≤ 6 ∧
  ∀ v rows2 H', SB (AtP P0 G) H H' → PotAt P0 G S H' → At (AtP P0 G) H' (.tup [.int z, .tup rows2]) v → TwiceOf rows rows2 → MOk z rows2 → Q v H'
section
variable {P : Program} {w : World} {K : PySem.W.Frag} {mg : Str → Option Value} {base : Heap} {k : Nat} {t1 t2 t3 : Tok}
theorem ok_law_twice (Z : Zs mg) (c_law_draw : Cal P w K mg base CX0 k "_law_draw" ["_law_pot_here", "_law_many"] spPDraw) (d : Def K mg "_law_twice" s_law_twice ["_law_pot_here", "_law_machine_here"]) : Cal P w K mg base CX0 (k + 1) "_law_twice" ["_law_pot_here", "_law_machine_here"] spTwice := by
  refine d.ok sc_law_twice (fun vs H Q E h => ?_) (fun f cdv A outer s H vs Q E hr h => ?_)
  · obtain ⟨_, _, _, _, _, _, rfl, _⟩ := h; rfl
  obtain ⟨P0, G0, S, u, z, rows, rfl, hp, hu, ok, l6, q⟩ := h
  refine ⟨_, (pss_cons (ps_asg (pe_tup (pa_cons (pe_callB (id := "len") call_len_seq (by rfl) Z.len (by decide +kernel) (pa_cons (pe_ix ix_tup (pv 1) pe_int (fun _ _ => rfl)) pa_nil)) (pa_cons (pe_lst pa_nil) pa_nil))) (pg_tup (by rfl) (pgs_cons (pg_name (i := 2) sc_law_twice.nd rfl (Or.inr rfl)) (pgs_cons (pg_name (i := 3) sc_law_twice.nd rfl (Or.inl rfl)) pgs_nil))))
      (pss_cons (ps_for PassesOwn.never rfl (pi_range1 (by rfl) Z.range (pa_cons pe_int pa_nil)) (pg_name (i := 4) sc_law_twice.nd rfl (Or.inl rfl)) (pss_one (ps_for PassesOwn.never rfl (pi_tup (pe_ix ix_tup (pv 1) pe_int (fun _ _ => rfl))) (pg_tup (by rfl) (pgs_cons (pg_name (i := 5) sc_law_twice.nd rfl (Or.inl rfl)) (pgs_cons (pg_name (i := 6) sc_law_twice.nd rfl (Or.inl rfl)) pgs_nil))) (pss_cons (ps_setLc (i := 7) (own := [("_law_step", 8)]) (g := gName 8) (tt := tYes) rfl sc_law_twice.nd rfl rfl (sw_true rfl rfl rfl (by decide +kernel)) (pi_tup (pv 6)) (blkOk_by (N := ["_law_pot_here", "_law_machine_here", "_law_many", "_law_rows", "_law_turn", "_law_end", "_law_steps", "_law_later_here", "_law_step"]) (sc := defScope s_law_twice) (by decide +kernel)) (fun _ _ _ _ _ => (pg_name (i := 8) sc_law_twice.nd rfl (Or.inl rfl))) (fun _ _ _ _ _ => pts_nil) (fun _ _ _ _ _ => (pe_ifExp (pt_cmpR op_isN (pv 8) pe_non (nomark _)) pe_non (pe_tup (pa_cons (pe_ix (r := rIxT K) ix_tup (pv 8) pe_int (fun _ _ => rfl)) (pa_cons (pe_op op_add (pe_ix (r := rIxT K) ix_tup (pv 8) pe_int (fun _ _ => rfl)) (pe_op op_mul (pv 2) (pe_cal c_law_draw hr (by rfl) (pa_cons (pv 0) (pa_cons pe_int pa_nil))))) pa_nil))))))
      (pss_one (ps_expr (pe_bm PySem.F.plainAttrs_list PySem.F.slot_list_append PySem.F.type_list_append mt_append (pv 3) (pa_cons (pe_tup (pa_cons (pv 5) (pa_cons (pe_callTy (T := "tuple") call_tuple_of (by rfl) Z.tuple (by decide +kernel) (pa_cons (pv 7) pa_nil)) pa_nil))) pa_nil))))))))
      (pss_one (ps_ret (pe_tup (pa_cons (pe_ix ix_tup (pv 1) pe_int (fun _ _ => rfl)) (pa_cons (pe_callTy (T := "tuple") call_tuple_of (by rfl) Z.tuple (by decide +kernel) (pa_cons (pe_op op_cat (pv 3) (pe_lst (pa_cons (pe_tup (pa_cons pe_int (pa_cons (pe_op op_repN (pe_tup (pa_cons (pe_tup (pa_cons pe_int (pa_cons pe_int pa_nil))) pa_nil)) (pe_ix ix_tup (pv 1) pe_int (fun _ _ => rfl))) pa_nil))) pa_nil))) pa_nil)) pa_nil))))))), ?_⟩
  have z8 := ok.z8
  have z1 := ok.z1
  have k1 := ok.n1
  obtain ⟨p, pr, us, rfl, ep, epr, ar, npr⟩ := At.mach hu
  obtain ⟨_, _, ep0, np, _⟩ := id hu
  cases ep0
  have lu := ar.len
  have zP : ∀ a, AtP P0 G0 a → Trk H a := hp.trk
  -- many, rows
  refine ⟨_, rfl, p, _, 1, _, rfl, rfl, .of ep, rfl, pr, us, rfl, .inr (.of epr), (by show 0 ≤ sizeLine; decide), fun R nR => ⟨(by show 2 ≤ sizeLine; decide), fun T nT => ?_⟩⟩
  have yR := same_new nR (.lst [])
  have hpR := hp.same yR
  have nnR := hp.ne_new nR
  have eR0 : (upd H R (.lst [])) R = some (.lst []) := upd_same
  have nof : ∀ {a o}, H a = some o → a ≠ R := fun h e => by rw [e, nR] at h; cases h
  have arR : AtAll (fun a => AtP P0 G0 a ∨ a = R) (upd H R (.lst [])) rows us := ar.step (.of yR) fun a na tr h => h.elim na (fun e => tr (by rw [e]; exact nR))
  have old : ∀ {a o G}, SB (fun a => AtP P0 G0 a ∨ a = R) (upd H R (.lst [])) G → ¬ AtP P0 G0 a → H a = some o → G a = some o := fun sG na h => sG _ _ (fun h' => h'.elim na (nof h)) (yR _ _ h)
  generalize hHR : upd H R (.lst []) = HR at *
  have yT := same_new nT (.tup [V.int (us.length : Nat), V.ref R])
  refine ⟨T, _, rfl, .of upd_same, rfl, _, _, rfl, _, _, rfl, rfl, ?_⟩
  have eR0 := yT _ _ eR0
  have hpR := hpR.same yT
  generalize hHT : upd HR T (.tup [V.int (us.length : Nat), V.ref R]) = HT at *
  have old' : ∀ {a o G}, SB (fun a => AtP P0 G0 a ∨ a = R) HT G → ¬ AtP P0 G0 a → H a = some o → G a = some o := fun sG na h => sG _ _ (fun h' => h'.elim na (nof h)) (yT _ _ (yR _ _ h))
  have arR := arR.same yT
  clear old
  have old := @old'
  refine ⟨2, rfl, by decide, by decide, ?_⟩
  refine for_range (lo := 0) (n := 2) (fun i σ' G => SB (fun a => AtP P0 G0 a ∨ a = R) HT G ∧ PotAt P0 G0 S G ∧ ∃ (vs : List V) (ts : List Th) (y4 y5 y6 y7 : Option V), σ' = [some (.ref P0), some (.ref p), some (.int (us.length : Nat)), some (.ref R), y4, y5, y6, y7, none] ∧ G R = some (.lst vs) ∧ AtAll (fun a => AtP P0 G0 a ∨ a = R) G ts vs ∧ ts.length = i * rows.length ∧ Tw rows ts)
    ⟨.rfl', hpR, [], [], none, none, none, none, rfl, eR0, .nil, (Nat.zero_mul _).symm, Tw.nil⟩ (fun i σ' G hi hh => ?_) (fun σ' G hh => ?_)
  · obtain ⟨sG, pG, vs, ts, y4, y5, y6, y7, rfl, eR, aR, lT, hT⟩ := hh
    refine ⟨_, rfl, p, _, 1, _, rfl, rfl, .of (old sG np ep), rfl, pr, rfl, ⟨_, .of (old sG npr epr)⟩, ?_⟩
    refine for_tup (xs := us) (fun j σ' G => SB (fun a => AtP P0 G0 a ∨ a = R) HT G ∧ PotAt P0 G0 S G ∧ ∃ (vs : List V) (ts : List Th) (y5 y6 y7 : Option V), σ' = [some (.ref P0), some (.ref p), some (.int (us.length : Nat)), some (.ref R), some (.int (0 + (i : Nat))), y5, y6, y7, none] ∧ G R = some (.lst vs) ∧ AtAll (fun a => AtP P0 G0 a ∨ a = R) G ts vs ∧ ts.length = i * rows.length + j ∧ Tw rows ts)
      ⟨sG, pG, vs, ts, _, _, _, rfl, eR, aR, lT, hT⟩ (fun j σ' G _ hh => .of (old hh.1 npr epr)) (fun j x σ' G ex hh => ?_) (fun σ' G hh => ?_)
    · clear sG pG eR aR lT hT
      obtain ⟨sG, pG, vs, ts, y5, y6, y7, rfl, eR, aR, lT, hT⟩ := hh
      have hj : j < rows.length := by rw [← lu]; exact (List.getElem?_eq_some_iff.mp ex).1
      obtain ⟨pu, ve, ps, vs2, e, ss, b1, b2, b3, b4, b5, b6, b7, b8, b9⟩ := row_at (arR.sb sG) ok hj
      rw [b1] at ex
      cases ex
      have ls := b8.len
      refine ⟨pu, _, rfl, .of b2, rfl, _, _, rfl, _, _, rfl, rfl, ?_⟩
      have trkG : ∀ a, (AtP P0 G0 a ∨ a = R) → Trk G a := fun a h => by
        rcases h with h | rfl
        · exact pG.trk a h
        · exact .of eR
      have h1 : enS rows j = e := by show endOf ((rows[j]?).getD .non) = e; rw [b4]; rfl
      have h2 : stS rows j = ss := by show stepsOf ((rows[j]?).getD .non) = ss; rw [b4]; rfl
      have hmod : ts.length % rows.length = j := by rw [lT, Nat.mul_comm, Nat.mul_add_mod]; exact Nat.mod_eq_of_lt hj
      have hi2 : i < 2 := hi
      have nps : ¬ (AtP P0 G0 ps ∨ ps = R) := by
        obtain ⟨_, hx⟩ := (arR.sb sG).at b4
        obtain ⟨e1, hx⟩ := hx
        rw [b1] at e1
        cases e1
        obtain ⟨_, _, _, e2, e3, _, hw⟩ := hx.pair
        cases e2
        rw [b2] at e3
        cases e3
        obtain ⟨_, _, e4, n, _⟩ := hw
        cases e4
        exact n
      refine ⟨_, rfl, ps, rfl, ⟨_, .of b3⟩, fun D nD => lc_it walk_tup (fun m G' => SB (fun a => AtP P0 G0 a ∨ a = D) G G' ∧ PotAt P0 G0 S G' ∧ ∃ (ws : List V) (xs : List Th), G' D = some (.lst ws) ∧ AtAll (fun a => a = D ∨ (AtP P0 G0 a ∨ a = R)) G' xs ws ∧ SCs (fun u => u < 2 * rows.length) (fun u => u % rows.length) (ss.take m) xs) ⟨.upd_new .rfl' nD _, pG.same (same_new nD _), [], [], upd_same, .nil, .nil⟩ (fun m G' _ p2 => .of (p2.1 _ _ (fun h => ?_) b3)) (fun m x G' G'' hm p2 y => ?_) (fun G' p2 => ?_)⟩
      · rcases h with h | h
        · exact nps (.inl h)
        · rw [h, nD] at b3; cases b3
      · obtain ⟨sX, pX, ws, xs, eD, aD, hc⟩ := p2
        obtain ⟨rfl, ex⟩ := y
        have hms : m < ss.length := by omega
        have fin : ∀ (v : V) (t : Th) (G3 : Hp), SB (AtP P0 G0) G'' G3 → PotAt P0 G0 S G3 → At (fun a => a = D ∨ (AtP P0 G0 a ∨ a = R)) G3 t v → SC (fun u => u < 2 * rows.length) (fun u => u % rows.length) ((ss[m]?).getD .non) t → ∃ acc, G3 D = some (.lst acc) ∧ acc.length < sizeLine ∧ SB (fun a => AtP P0 G0 a ∨ a = D) G (upd G3 D (.lst (acc ++ [v]))) ∧ PotAt P0 G0 S (upd G3 D (.lst (acc ++ [v]))) ∧ ∃ (ws : List V) (xs : List Th), (upd G3 D (.lst (acc ++ [v]))) D = some (.lst ws) ∧ AtAll (fun a => a = D ∨ (AtP P0 G0 a ∨ a = R)) (upd G3 D (.lst (acc ++ [v]))) xs ws ∧ SCs (fun u => u < 2 * rows.length) (fun u => u % rows.length) (ss.take (m + 1)) xs := fun v t G3 s3 p3 a3 c3 => by
          have nnD := pG.ne_new nD
          have lx := hc.len
          rw [List.length_take] at lx
          have sU : SB (fun a => a = D ∨ (AtP P0 G0 a ∨ a = R)) G3 (upd G3 D (.lst (ws ++ [v]))) := .self (Z := fun a => a = D ∨ (AtP P0 G0 a ∨ a = R)) (.inl rfl) _
          refine ⟨ws, s3 _ _ (fun h => h.elim nnD.1 nnD.2) eD, by rw [aD.len, sizeLine_eq]; omega, (sX.trans (s3.mono fun _ h => .inl h)).trans (.self (Z := fun a => AtP P0 G0 a ∨ a = D) (.inr rfl) _), p3.new pG nD _, _, _, upd_same, ((aD.sb (s3.mono fun _ h => .inr (.inl h))).sb sU).append (.cons (a3.sb sU) .nil), ?_⟩
          rw [List.take_add_one, List.getElem?_eq_getElem hms]
          rw [List.getElem?_eq_getElem hms] at c3
          exact hc.snoc c3
        have aS : AtAll (fun a => a = D ∨ (AtP P0 G0 a ∨ a = R)) G'' ss vs2 := (b8.step (Z' := fun a => a = D ∨ (AtP P0 G0 a ∨ a = R)) .rfl' fun a na tr h => h.elim (fun e => tr (by rw [e]; exact nD)) na).sb (sX.mono fun a h => h.elim (fun h => .inr (.inl h)) .inl)
        refine ⟨rfl, ?_⟩
        rcases st_get aS b9 ex with ⟨f1, rfl⟩ | ⟨q2, m', s2', f1, rfl, f2, _, m0, m1, c0, c1⟩
        · refine ⟨_, rfl, rfl, _, rfl, iteT (fin .non .non G'' .rfl' pX rfl ?_)⟩
          rw [f1]; exact .non
        · refine ⟨_, rfl, rfl, _, rfl, iteF ⟨_, rfl, q2, _, 0, _, rfl, rfl, .of f2, rfl, _, rfl, q2, _, 1, _, rfl, rfl, .of f2, rfl, _, rfl, _, rfl, P0, G0, S, 2, rfl, pX, by decide, by decide, fun r G3 r0 r1 s3 p3 => ⟨_, _, rfl, rfl, .inl ⟨by omega, by omega⟩, _, _, rfl, rfl, (by show 2 ≤ sizeLine; decide), fun p9 n9 => ?_⟩⟩⟩
          obtain ⟨t0, rfl⟩ : ∃ t0 : Nat, s2' = (t0 : Int) := ⟨s2'.toNat, by omega⟩
          obtain ⟨r', rfl⟩ : ∃ r' : Nat, r = (r' : Int) := ⟨r.toNat, by omega⟩
          have y9 := same_new n9 (.tup [V.int m', V.int ((t0 : Int) + ((us.length : Nat) : Int) * (r' : Int))])
          have t9 : ∀ a, (a = D ∨ (AtP P0 G0 a ∨ a = R)) → Trk G3 a := fun a h => by
            by_cases hP : AtP P0 G0 a
            · exact p3.trk a hP
            · have : ∃ o, G'' a = some o := by
                rcases h with rfl | h | rfl
                · exact ⟨_, eD⟩
                · exact absurd h hP
                · exact ⟨_, sX _ _ (fun h => h.elim hP (fun h => by rw [h, nD] at eR; cases eR)) eR⟩
              obtain ⟨o, ho⟩ := this
              exact .of (s3 _ _ hP ho)
          refine fin _ (.tup [.int m', .int ((t0 : Int) + ((us.length : Nat) : Int) * (r' : Int))]) _ (s3.trans (.of y9)) (p3.same y9) ⟨p9, _, rfl, fun h => Trk.not n9 (t9 _ h), upd_same, .cons rfl (.cons rfl .nil)⟩ ?_
          rw [f1, lu, show (t0 : Int) + ((rows.length : Nat) : Int) * (r' : Int) = ((t0 + rows.length * r' : Nat) : Int) by rw [Int.natCast_add, Int.natCast_mul]]
          have ht : t0 < rows.length := by omega
          have hb : t0 + rows.length * r' < 2 * rows.length := by
            have : r' = 0 ∨ r' = 1 := by omega
            rcases this with rfl | rfl <;> omega
          have := SC.tup (B := fun u => u < 2 * rows.length) (π := fun u => u % rows.length) m' (t0 + rows.length * r') hb
          rw [show (t0 + rows.length * r') % rows.length = t0 by rw [Nat.add_mul_mod_self_left]; exact Nat.mod_eq_of_lt ht] at this
          exact this
      · obtain ⟨sX, pX, ws, xs, eD, aD, hc⟩ := p2
        rw [ls, List.take_length] at hc
        have eR' := sX _ _ (fun h => h.elim (fun h => h.elim nnR.1 nnR.2) (fun h => by rw [h, nD] at eR; cases eR)) eR
        have sGX : SB (fun a => AtP P0 G0 a ∨ a = R) G G' := fun b o nb hb => sX b o (fun h => h.elim (fun h => nb (.inl h)) (fun e => by rw [e, nD] at hb; cases hb)) hb
        refine ⟨_, rfl, .inl ⟨rfl, _, .inl (.inl eR')⟩, _, rfl, _, rfl, D, ws, rfl, .inl ⟨.of eD, fun p6 n6 => ⟨(by show 2 ≤ sizeLine; decide), fun p7 n7 => ?_⟩⟩⟩
        have y6 := same_new n6 (.tup ws)
        have y7' := same_new n7 (.tup [ve, .ref p6])
        have y67 := y6.trans y7'
        have trkX : ∀ a, (AtP P0 G0 a ∨ a = R) → Trk G' a := fun a h => by
          rcases h with h | rfl
          · exact pX.trk a h
          · exact .of eR'
        have hve : ∀ Z' H', At Z' H' e ve := fun _ _ => by
          rcases b6 with ⟨rfl, rfl⟩ | ⟨i, rfl, rfl⟩ <;> rfl
        have row : At (fun a => AtP P0 G0 a ∨ a = R) (upd (upd G' p6 (.tup ws)) p7 (.tup [ve, .ref p6])) (.tup [e, .tup xs]) (.ref p7) := ⟨p7, _, rfl, fun h => Trk.not n7 (Trk.same y6 (trkX _ h)), upd_same, .cons (hve _ _) (.cons ⟨p6, ws, rfl, fun h => Trk.not n6 (trkX _ h), y7' _ _ upd_same, (aD.less fun a h => .inr h).same y67⟩ .nil)⟩
        have aR7 := (aR.sb sGX).same y67
        have pX7 := pX.same y67
        have eR7 := y67 _ _ eR'
        have sG7 := (sG.trans sGX).trans (.of y67)
        generalize upd (upd G' p6 (.tup ws)) p7 (.tup [ve, .ref p6]) = G7 at *
        have sU : SB (fun a => AtP P0 G0 a ∨ a = R) G7 (upd G7 R (.lst (vs ++ [.ref p7]))) := .self (Z := fun a => AtP P0 G0 a ∨ a = R) (.inr rfl) _
        have hlt : i * rows.length ≤ 1 * rows.length := Nat.mul_le_mul_right _ (by omega)
        refine ⟨R, vs, _, rfl, rfl, eR7, by rw [aR.len, lT, sizeLine_eq]; omega, sG7.trans sU, pX7.new hp nR _, vs ++ [.ref p7], ts ++ [.tup [e, .tup xs]], _, _, _, rfl, upd_same, (aR7.sb sU).append (.cons (row.sb sU) .nil), by rw [List.length_append, lT]; rfl, hT.snoc ?_⟩
        rw [hmod]
        exact ⟨xs, by rw [h1], by rw [h2]; exact hc⟩
    · clear sG pG eR aR lT hT
      obtain ⟨sG, pG, vs, ts, y5, y6, y7, rfl, eR, aR, lT, hT⟩ := hh
      exact ⟨sG, pG, vs, ts, _, _, _, _, rfl, eR, aR, by rw [lT, lu, Nat.succ_mul], hT⟩
  · obtain ⟨sG, pG, vs, ts, y4, y5, y6, y7, rfl, eR, aR, lT, hT⟩ := hh
    have epG := old sG np ep
    have trkG : ∀ a, (AtP P0 G0 a ∨ a = R) → Trk G a := fun a h => by
      rcases h with h | rfl
      · exact pG.trk a h
      · exact .of eR
    refine ⟨_, rfl, p, _, 0, _, rfl, rfl, .of epG, rfl, _, rfl, (by show 2 ≤ sizeLine; decide), fun c1 n1 => ⟨(by show 1 ≤ sizeLine; decide), fun c2 n2 => ?_⟩⟩
    have u1 := same_new n1 (.tup [V.int 0, V.int 0])
    have u2 := same_new n2 (.tup [V.ref c1])
    have u12 := u1.trans u2
    refine ⟨_, rfl, p, _, 0, _, rfl, rfl, .of (u12 _ _ epG), rfl, ?_⟩
    refine rep_any (Z := AtP P0 G0) (t := .tup [.int 0, .int 0]) (k := z) upd_same ⟨c1, _, rfl, fun h => Trk.not n1 (pG.trk _ h), u2 _ _ upd_same, .cons rfl (.cons rfl .nil)⟩ (fun h => Trk.not n2 (Trk.same u1 (pG.trk _ h))) (fun a h => Trk.same u12 (pG.trk a h)) (by omega) (by omega) fun v3 H3 s3 a3 => ?_
    refine ⟨(by show 2 ≤ sizeLine; decide), fun c4 n4 => ⟨(by show 1 ≤ sizeLine; decide), fun c5 n5 => ?_⟩⟩
    have u3 := u12.trans s3
    have u4 := same_new n4 (.tup [V.int 1, v3])
    have u34 := u3.trans u4
    have u5 := same_new n5 (.lst [V.ref c4])
    have u345 := u34.trans u5
    have l2 := aR.len
    have hlt : ts.length = 2 * rows.length := lT
    refine ⟨R, c5, vs, [.ref c4], rfl, rfl, u345 _ _ eR, upd_same, by rw [l2, hlt, sizeLine_eq]; show _ + 1 ≤ _; omega, fun c6 n6 => ?_⟩
    have u6 := same_new n6 (.lst (vs ++ [V.ref c4]))
    have u36 := u345.trans u6
    refine ⟨c6, _, rfl, .inl ⟨.of upd_same, fun c7 n7 => ⟨(by show 2 ≤ sizeLine; decide), fun c8 n8 => ?_⟩⟩⟩
    have u7 := same_new n7 (.tup (vs ++ [V.ref c4]))
    have u8 := same_new n8 (.tup [V.int z, V.ref c7])
    have u48 := (u5.trans u6).trans (u7.trans u8)
    have uall := u36.trans (u7.trans u8)
    obtain ⟨htw, hok⟩ := twi_all ok l6 hT hlt rfl
    have row : At (AtP P0 G0) _ (.tup [.int 1, .tup (List.replicate z.toNat (.tup [.int 0, .int 0]))]) (.ref c4) := ⟨c4, _, rfl, fun h => Trk.not n4 (Trk.same u3 (pG.trk _ h)), u48 _ _ upd_same, .cons rfl (.cons (a3.same (u4.trans u48)) .nil)⟩
    have aAll := ((aR.less fun a h => .inl h).same uall).append (.cons row .nil)
    have s0 : SB (AtP P0 G0) H G := fun b o nb hb => old sG nb hb
    exact q _ _ _ (s0.trans (.of uall)) (pG.same uall) ⟨c8, _, rfl, fun h => Trk.not n8 (Trk.same (u36.trans u7) (pG.trk _ h)), upd_same, .cons rfl (.cons ⟨c7, _, rfl, fun h => Trk.not n7 (Trk.same u36 (pG.trk _ h)), u8 _ _ upd_same, aAll⟩ .nil)⟩ htw hok
end
end KL
end
section
set_option maxHeartbeats 1000000
namespace KL
open PySem PySem.Spec PyProof.Rows L2
theorem FT_inj {p q : Int × Int} (h : FT (some p) = FT (some q)) : p = q := by
  obtain ⟨a, b⟩ := p
  obtain ⟨c, d⟩ := q
  injection h with h
  injection h with h1 h2
  injection h1 with h1
  injection h2 with h2 _
  injection h2 with h2
  rw [h1, h2]
theorem lowP_eq {a b c e : Int} (hb : 0 < b) (he : 0 < e) (x : e * a = b * c) : lowP a b = lowP c e := FT_inj (frT_eq hb he x)
theorem TotF.totO {z : Int} {rows : List Th} {a b : Int} (h : TotF z rows a b) : totO z rows = some (lowP a b) := by
  rw [totO_some h.p]
  exact congrArg some (FT_inj (show FT (some (topT (trimL z rows), botT (trimL z rows))) = FT (some (lowP a b)) from h.tot))
theorem lowP_pos {a b : Int} (hb : 0 < b) : 0 < (lowP a b).2 := (low_parts (a := a) hb).2.2
theorem lowP_val {a b : Int} (hb : 0 < b) : (lowP a b).2 * a = b * (lowP a b).1 := low_val hb
theorem zero_tot {z : Int} {rows : List Th} (ok : MOk z rows) (nl : ¬ lvE rows 0) : totO z rows = some (0, 1) := (none_tot ok nl).totO
theorem tot_live {z : Int} {rows : List Th} (ok : MOk z rows) (l : lvE rows 0) : totO z rows ≠ some (0, 1) := fun e => by
  by_cases h : PosR (trimL z rows)
  · have := some_top ok l h
    rw [totO_some h] at e
    injection e with e
    have := congrArg Prod.fst e
    have : topT (trimL z rows) = 0 := this
    omega
  · rw [totO_none h] at e; cases e
/-- a total with its values -/
theorem tot_val {z : Int} {rows : List Th} (ok : MOk z rows) (hp : PosR (trimL z rows)) : ∃ X D, RSol rows X D ∧ totO z rows = some (topT (trimL z rows), botT (trimL z rows)) ∧ botT (trimL z rows) * X 0 = D * topT (trimL z rows) ∧ 0 < botT (trimL z rows) := by
  obtain ⟨X, h, _⟩ := RSol.of ok hp
  exact ⟨X, _, h, totO_some hp, h.low ok, (botT_small (trimL_ok ok) hp).2⟩
theorem tot_lat {z : Int} {rows : List Th} (ok : MOk z rows) (okL : MOk z (latL rows)) (hE : EndsLe 59 rows) : totO z (latL rows) = partO 1 (totO z rows) := by
  by_cases hp : PosR (trimL z rows)
  · obtain ⟨X, D, h, e, v, b0⟩ := tot_val ok hp
    rw [e, ((lat_sol hE h).totF okL).totO]
    have := h.D0
    refine congrArg some (lowP_eq (by omega) (Int.mul_pos b0 (by decide)) ?_)
    show botT (trimL z rows) * (2 : Int) ^ 1 * X 0 = 2 * D * topT (trimL z rows)
    grind
  · rw [totO_none hp]
    refine totO_none fun hp' => hp ?_
    obtain ⟨X, h, _⟩ := RSol.of okL hp'
    exact ((lat_back hE h).total ok).1
theorem lat_ok {z : Int} {rows : List Th} (ok : MOk z rows) (hE : EndsLe 59 rows) : MOk z (latL rows) := by
  refine ⟨ok.z1, ok.z8, by unfold latL; rw [List.length_map]; exact ok.n1, by unfold latL; rw [List.length_map]; exact ok.n30, fun r m => ?_⟩
  rw [show (((latL rows).length : Nat) : Int) = ((rows.length : Nat) : Int) by unfold latL; rw [List.length_map]]
  obtain ⟨r0, m0, rfl⟩ := List.mem_map.mp m
  obtain ⟨e, ss, rfl, h1, h2, h3⟩ := rowB_is (ok.r r0 m0)
  refine rowB_of ?_ h2 h3
  rcases h1 with rfl | ⟨i, rfl, i1, i2⟩
  · exact .inl rfl
  · exact .inr ⟨i + 1, rfl, by omega, by have := hE _ m0 i rfl; omega⟩
theorem und_term {x D t b p2 p1 : Int} {m : Nat} (hm : m ≤ 60) (hb : 0 < b) (v : b * x = D * t) (w : p2 * t = b * 2 ^ m * p1) : p2 * ((2 : Int) ^ (60 - (m : Int)).toNat * x) = 2 ^ 60 * D * p1 := by
  have e : (2 : Int) ^ 60 = 2 ^ (60 - (m : Int)).toNat * 2 ^ m := by rw [← Int.pow_add]; congr 1; omega
  rw [e]
  generalize (2 : Int) ^ (60 - (m : Int)).toNat = A at *
  generalize (2 : Int) ^ m = B at *
  refine Int.eq_of_mul_eq_mul_left (a := b) (by omega) ?_
  calc b * (p2 * (A * x)) = p2 * A * (b * x) := by grind
    _ = A * D * (p2 * t) := by rw [v]; grind
    _ = b * (A * B * D * p1) := by rw [w]; grind
theorem tot_und {z z' : Int} {rows1 rows2 : List Th} {m0 m1 : Nat} (ok1 : MOk z rows1) (ok2 : MOk z' rows2) (h0 : m0 ≤ 60) (h1 : m1 ≤ 60) (ok : MOk 8 (undL m0 m1 rows1 rows2)) : totO 8 (undL m0 m1 rows1 rows2) = sumO (partO m0 (totO z rows1)) (partO m1 (totO z' rows2)) := by
  by_cases hp : PosR (trimL z rows1) ∧ PosR (trimL z' rows2)
  · obtain ⟨X1, D1, s1, e1, v1, b1⟩ := tot_val ok1 hp.1
    obtain ⟨X2, D2, s2, e2, v2, b2⟩ := tot_val ok2 hp.2
    have d1 := s1.D0
    have d2 := s2.D0
    have t1 := s1.scale d2
    have t2 := s2.scale d1
    rw [Int.mul_comm D1 D2] at t2
    rw [e1, e2, (und_sol ok1 ok2 ok t1 t2).totO]
    have q1 := lowP_pos (a := topT (trimL z rows1)) (b := botT (trimL z rows1) * 2 ^ m0) (Int.mul_pos b1 (Int.pow_pos (by decide)))
    have q2 := lowP_pos (a := topT (trimL z' rows2)) (b := botT (trimL z' rows2) * 2 ^ m1) (Int.mul_pos b2 (Int.pow_pos (by decide)))
    have w1 := lowP_val (a := topT (trimL z rows1)) (b := botT (trimL z rows1) * 2 ^ m0) (Int.mul_pos b1 (Int.pow_pos (by decide)))
    have w2 := lowP_val (a := topT (trimL z' rows2)) (b := botT (trimL z' rows2) * 2 ^ m1) (Int.mul_pos b2 (Int.pow_pos (by decide)))
    show some (lowP _ _) = some (addP (lowP (topT (trimL z rows1)) (botT (trimL z rows1) * 2 ^ m0)) (lowP (topT (trimL z' rows2)) (botT (trimL z' rows2) * 2 ^ m1)))
    generalize lowP (topT (trimL z rows1)) (botT (trimL z rows1) * 2 ^ m0) = p at *
    generalize lowP (topT (trimL z' rows2)) (botT (trimL z' rows2) * 2 ^ m1) = q at *
    have u1 := und_term (x := D2 * X1 0) (D := D2 * D1) h0 b1 (by rw [Int.mul_left_comm, v1, Int.mul_assoc]) w1
    have u2 := und_term (x := D1 * X2 0) (D := D2 * D1) h1 b2 (by rw [Int.mul_left_comm, v2]; grind) w2
    refine congrArg some (lowP_eq (Int.mul_pos (by decide) (Int.mul_pos d2 d1)) (Int.mul_pos q1 q2) ?_)
    generalize (2 : Int) ^ (60 - (m0 : Int)).toNat * (D2 * X1 0) = A at *
    generalize (2 : Int) ^ (60 - (m1 : Int)).toNat * (D1 * X2 0) = B at *
    generalize (2 : Int) ^ 60 * (D2 * D1) = C at *
    calc p.2 * q.2 * (A + B) = q.2 * (p.2 * A) + p.2 * (q.2 * B) := by grind
      _ = C * (p.1 * q.2 + q.1 * p.2) := by rw [u1, u2]; grind
  · rw [totO_none fun hp' => hp (und_back ok1 ok2 ok hp')]
    by_cases a : PosR (trimL z rows1)
    · have b : ¬ PosR (trimL z' rows2) := fun b => hp ⟨a, b⟩
      rw [totO_none b]
      cases partO m0 (totO z rows1) <;> rfl
    · rw [totO_none a]; rfl
theorem tot_beh0 {z z' : Int} {rows1 rows2 : List Th} (ok1 : MOk z rows1) (ok2 : MOk z' rows2) (ok : MOk 8 (behL rows1 rows2)) (h : totO z rows1 = some (0, 1) ∨ totO z' rows2 = some (0, 1)) : totO 8 (behL rows1 rows2) = some (0, 1) := by
  refine zero_tot ok fun l => ?_
  have n1 := ok1.n1
  obtain ⟨l1, l2⟩ := (beh_lvE ok1 ok2 ok (a := 0) (by omega)).mp l
  exact h.elim (tot_live ok1 l1) (tot_live ok2 l2)
theorem tot_behN {z z' : Int} {rows1 rows2 : List Th} (ok1 : MOk z rows1) (ok2 : MOk z' rows2) (ok : MOk 8 (behL rows1 rows2)) (h1 : totO z rows1 ≠ some (0, 1)) (h2 : totO z' rows2 ≠ some (0, 1)) (h : totO z rows1 = none ∨ totO z' rows2 = none) : totO 8 (behL rows1 rows2) = none := by
  refine totO_none fun hp => ?_
  have l1 : lvE rows1 0 := Classical.byContradiction fun n => h1 (zero_tot ok1 n)
  have l2 : lvE rows2 0 := Classical.byContradiction fun n => h2 (zero_tot ok2 n)
  obtain ⟨p1, p2⟩ := beh_back ok1 ok2 ok l1 l2 hp
  rw [totO_some p1, totO_some p2] at h
  rcases h with h | h <;> cases h
theorem tot_beh {z z' : Int} {rows1 rows2 : List Th} {p q : Int × Int} (ok1 : MOk z rows1) (ok2 : MOk z' rows2) (ok : MOk 8 (behL rows1 rows2)) (h1 : totO z rows1 = some p) (h2 : totO z' rows2 = some q) : totO 8 (behL rows1 rows2) = some (lowP (p.1 * q.1) (p.2 * q.2)) := by
  have p1 : PosR (trimL z rows1) := Classical.byContradiction fun n => by rw [totO_none n] at h1; cases h1
  have p2 : PosR (trimL z' rows2) := Classical.byContradiction fun n => by rw [totO_none n] at h2; cases h2
  obtain ⟨X1, D1, s1, e1, v1, b1⟩ := tot_val ok1 p1
  obtain ⟨X2, D2, s2, e2, v2, b2⟩ := tot_val ok2 p2
  rw [e1] at h1
  rw [e2] at h2
  cases h1
  cases h2
  rw [(beh_sol ok1 ok2 ok s1 s2).totO]
  refine congrArg some (lowP_eq (Int.mul_pos s1.D0 s2.D0) (Int.mul_pos b1 b2) ?_)
  show botT (trimL z rows1) * botT (trimL z' rows2) * (X1 0 * X2 0) = D1 * D2 * (topT (trimL z rows1) * topT (trimL z' rows2))
  calc _ = (botT (trimL z rows1) * X1 0) * (botT (trimL z' rows2) * X2 0) := by grind
    _ = _ := by rw [v1, v2]; grind
theorem tot_twi {z : Int} {rows rows2 : List Th} (t : TwiceOf rows rows2) (ok : MOk z rows) (ok2 : MOk z rows2) : totO z rows2 = totO z rows := by
  by_cases hp : PosR (trimL z rows)
  · obtain ⟨X, h, _⟩ := RSol.of ok hp
    rw [(twi_sol t ok ok2 h).totO, (h.totF ok).totO]
  · rw [totO_none hp]
    exact totO_none fun h => hp (twi_back t ok ok2 h)
/-! ### the law's own comparisons -/
theorem FT_lay (o : Option (Int × Int)) : (py (FT o)).canLay0 = true := by
  cases o with
  | none => exact lay_non
  | some p =>
    refine lay_tup fun x m => ?_
    rcases List.mem_cons.mp m with rfl | m
    · exact lay_int _
    · rw [List.mem_singleton.mp m]; exact lay_int _
theorem FT_dp (o : Option (Int × Int)) : dp (FT o) ≤ 64 := by
  cases o with
  | none => decide
  | some p => obtain ⟨a, b⟩ := p; exact (by decide : dp (.tup [.int 0, .int 0]) ≤ 64)
theorem FT_shp (o : Option (Int × Int)) : SeqAt.shaped (py (FT o)) = true := shaped_th (FT_lay o) (FT_dp o)
theorem FT_eqv {o : Option (Int × Int)} : PyData.eqv (py (FT o)) (py (FT (some (0, 1)))) = decide (o = some (0, 1)) := by
  cases o with
  | none => rfl
  | some p =>
    obtain ⟨a, b⟩ := p
    by_cases h : (some (a, b) : Option (Int × Int)) = some (0, 1)
    · rw [h, decide_eq_true rfl]; exact SeqAt.eqv_refl _ (FT_lay _)
    · rw [decide_eq_false h]
      have e : (py (FT (some (a, b)))).eqv (py (FT (some (0, 1)))) = (a == 0 && (b == 1 && true)) := by rfl
      rw [e]
      cases h1 : a == 0
      · rfl
      · cases h2 : b == 1
        · rfl
        · exact absurd (by rw [eq_of_beq h1, eq_of_beq h2]) h
theorem FT_shortT (o : Option (Int × Int)) : shortT (FT o) = true := by
  cases o with
  | none => rfl
  | some p =>
    obtain ⟨a, b⟩ := p
    refine short_tup' (show 2 ≤ 1000000 by decide) fun x m => ?_
    rcases List.mem_cons.mp m with rfl | m
    · rfl
    · rw [List.mem_singleton.mp m]; rfl
end KL
end
section
set_option maxHeartbeats 1000000
namespace KL
open PySem PySem.Spec PyProof.Rows L2
abbrev sc_lawN : List Str := ["_law_script", "_law_pot_here", "_law_one", "_law_other", "_law_first", "_law_second", "_law_mores", "_law_told", "_law_due", "_law_twice_here"]
abbrev s_law : Stmt := topS 55
theorem sc_law : FnScope ["_law_script", "_law_pot_here", "_law_one", "_law_other", "_law_first", "_law_second", "_law_mores", "_law_told", "_law_due", "_law_twice_here"] ["_law_script"] (defScope s_law) := ⟨rfl, rfl, rfl, by decide +kernel, rfl, by decide +kernel, by decide +kernel⟩
theorem tot_call {CM : Addr} {Z : Zone} {H : Hp} {v : V} {z : Int} {rows : List Th} {Q : VK} {E : XK} (a : At Z H (.tup [.int z, .tup rows]) v) (ok : MOk z rows) (q : ∀ u H', Same H H' → At (Trk H) H' (FT (totO z rows)) u → Q u H') : spTotO' CM [v] H Q E :=
  ⟨Z, v, _, rfl, a, ok.short, fun z' rows' e1 _ u H' s' a' => by
    obtain ⟨rfl, rfl⟩ := mach_inj e1
    exact q u H' s' a', fun mb => absurd (mb.symm.trans ok.mach) (by decide)⟩
theorem ne_same {K : PySem.W.Frag} {Z1 Z2 : Zone} {H : Hp} {x y : V} {o : Option (Int × Int)} {Q : VK} (a1 : At Z1 H (FT o) x) (a2 : At Z2 H (FT o) y) (q : Q (.bl false) H) : rNeD K x y H Q :=
  ⟨_, _, At.dp _ _ a1 (FT_lay o), At.dp _ _ a2 (FT_lay o), FT_shp o, FT_shp o, by rw [SeqAt.eqv_refl _ (FT_lay o)]; exact q⟩
theorem eq_same {K : PySem.W.Frag} {Z1 Z2 : Zone} {H : Hp} {x y : V} {o : Option (Int × Int)} {Q : VK} (a1 : At Z1 H (FT o) x) (a2 : At Z2 H (FT o) y) (q : Q (.bl true) H) : rEqD K x y H Q :=
  ⟨_, _, At.dp _ _ a1 (FT_lay o), At.dp _ _ a2 (FT_lay o), FT_shp o, FT_shp o, by rw [SeqAt.eqv_refl _ (FT_lay o)]; exact q⟩
theorem eq_nought {K : PySem.W.Frag} {Z1 Z2 : Zone} {H : Hp} {x y : V} {o : Option (Int × Int)} {Q : VK} (a1 : At Z1 H (FT o) x) (a2 : At Z2 H (FT (some (0, 1))) y) (q : Q (.bl (decide (o = some (0, 1)))) H) : rEqD K x y H Q :=
  ⟨_, _, At.dp _ _ a1 (FT_lay o), At.dp _ _ a2 (FT_lay _), FT_shp o, FT_shp _, by rw [FT_eqv]; exact q⟩
section
variable {P : Program} {w : World} {K : PySem.W.Frag} {mg : Str → Option Value} {base : Heap} {k : Nat} {t1 t2 t3 : Tok}
theorem ok_law {CM : Addr} (Z : Zs mg) (c_law_pot : Cal P w K mg base CX0 k "_law_pot" ["_law_script"] (spPot K)) (c_law_draw : Cal P w K mg base CX0 k "_law_draw" ["_law_pot_here", "_law_many"] spPDraw) (c_law_any : Cal P w K mg base CX0 k "_law_any" ["_law_pot_here", "_law_items"] spPAny) (c_law_menu : Cal P w K mg base CX0 k "_law_menu" ["_law_pot_here"] spPMenu) (c_law_machine : Cal P w K mg base CX0 k "_law_machine" ["_law_pot_here", "_law_most", "_law_mores"] spPMach)
    (c_law_total : Cal P w K mg base CX0 k "_law_total" ["_law_machine_here"] spTotO) (c_law_later : Cal P w K mg base CX0 k "_law_later" ["_law_machine_here"] spLater) (c_law_part : Cal P w K mg base CX0 k "_law_part" ["_law_one", "_law_more"] spPart) (c_law_sum : Cal P w K mg base CX0 k "_law_sum" ["_law_one", "_law_other"] spSum) (c_law_under : Cal P w K mg base CX0 k "_law_under" ["_law_one", "_law_other", "_law_mores"] spUnder) (c_law_behind : Cal P w K mg base CX0 k "_law_behind" ["_law_one", "_law_other"] spBehind) (c_law_reduced : Cal P w K mg base CX0 k "_law_reduced" ["_law_top", "_law_bottom"] spReduced) (c_law_twice : Cal P w K mg base CX0 k "_law_twice" ["_law_pot_here", "_law_machine_here"] spTwice)
    (c_worths : Cal P w K mg base (L2.CX P w) k "worths" ["machine"] (spWorths CM)) (c_total : Cal P w K mg base (L2.CX P w) k "total" ["machine"] (spTotO' CM))
    {f : Addr} {fd : FuncData} (F : Fun K "law" "law" s_law f fd) : FnOk P w K mg base CX0 (k + 1) f fd ["_law_script"] (spLaw K) := by
  refine F.ok sc_law (fun vs H Q E h => ?_) (fun cdv A outer s H vs Q E hr h => ?_)
  · obtain ⟨_, _, rfl, _⟩ := h; rfl
  obtain ⟨a, ns, rfl, hS, h63, q⟩ := h
  refine ⟨_, (pss_cons (ps_set (i := 1) sc_law.nd rfl (Or.inl rfl) (pe_cal c_law_pot hr (by rfl) (pa_cons (pv 0) pa_nil)))
      (pss_cons (ps_par (i := 2) (j := 3) rfl sc_law.nd rfl rfl (by decide) rfl rfl (pa_cons (pe_cal c_law_machine hr (by rfl) (pa_cons (pv 1) (pa_cons pe_int (pa_cons (pe_cal c_law_menu hr (by rfl) (pa_cons (pv 1) pa_nil)) pa_nil)))) (pa_cons (pe_cal c_law_machine hr (by rfl) (pa_cons (pv 1) (pa_cons pe_int (pa_cons (pe_cal c_law_menu hr (by rfl) (pa_cons (pv 1) pa_nil)) pa_nil)))) pa_nil)) (by rfl))
      (pss_cons (ps_par (i := 4) (j := 5) rfl sc_law.nd rfl rfl (by decide) rfl rfl (pa_cons (pe_cal c_law_total hr (by rfl) (pa_cons (pv 2) pa_nil)) (pa_cons (pe_cal c_law_total hr (by rfl) (pa_cons (pv 3) pa_nil)) pa_nil)) (by rfl))
      (pss_cons (ps_if (pt_cmpR (op_neD hr.units) (pe_calL c_total hr (by rfl) (pa_cons (pe_cal c_law_later hr (by rfl) (pa_cons (pv 2) pa_nil)) pa_nil)) (pe_cal c_law_part hr (by rfl) (pa_cons (pv 4) (pa_cons pe_int pa_nil))) (nomark _)) (pss_one (ps_ret pe_bl)) pss_nil)
      (pss_cons (ps_set (i := 6) sc_law.nd rfl (Or.inl rfl) (pe_lst (pa_cons (pe_cal c_law_draw hr (by rfl) (pa_cons (pv 1) (pa_cons pe_int pa_nil))) (pa_cons (pe_cal c_law_any hr (by rfl) (pa_cons (pv 1) (pa_cons (pe_lst (pa_cons pe_int (pa_cons pe_int (pa_cons pe_int (pa_cons pe_int pa_nil))))) pa_nil))) pa_nil))))
      (pss_cons (ps_if (pt_cmpR (op_neD hr.units) (pe_calL c_total hr (by rfl) (pa_cons (pe_cal c_law_under hr (by rfl) (pa_cons (pv 2) (pa_cons (pv 3) (pa_cons (pv 6) pa_nil)))) pa_nil)) (pe_cal c_law_sum hr (by rfl) (pa_cons (pe_cal c_law_part hr (by rfl) (pa_cons (pv 4) (pa_cons (pe_ix ix_list (pv 6) pe_int (fun _ _ => rfl)) pa_nil))) (pa_cons (pe_cal c_law_part hr (by rfl) (pa_cons (pv 5) (pa_cons (pe_ix ix_list (pv 6) pe_int (fun _ _ => rfl)) pa_nil))) pa_nil))) (nomark _)) (pss_one (ps_ret pe_bl)) pss_nil)
      (pss_cons (ps_if (pt_cmpR op_lt (pe_ix ix_tup (pv 2) pe_int (fun _ _ => rfl)) pe_int (nomark _)) (pss_cons (ps_set (i := 7) sc_law.nd rfl (Or.inl rfl) (pe_calL c_total hr (by rfl) (pa_cons (pe_cal c_law_behind hr (by rfl) (pa_cons (pv 2) (pa_cons (pv 3) pa_nil))) pa_nil)))
      (pss_cons (ps_if (PW.pt (pw_or (pt_cmpR (op_eqD hr.units) (pv 4) (pe_tup (pa_cons pe_int (pa_cons pe_int pa_nil))) (nomark _)) (pw_or1 (pt_cmpR (op_eqD hr.units) (pv 5) (pe_tup (pa_cons pe_int (pa_cons pe_int pa_nil))) (nomark _))))) (pss_one (ps_set (i := 8) sc_law.nd rfl (Or.inl rfl) (pe_tup (pa_cons pe_int (pa_cons pe_int pa_nil))))) (pss_one (ps_if (PW.pt (pw_or (pt_cmpR op_isN (pv 4) pe_non (nomark _)) (pw_or1 (pt_cmpR op_isN (pv 5) pe_non (nomark _))))) (pss_one (ps_set (i := 8) sc_law.nd rfl (Or.inl rfl) pe_non)) (pss_one (ps_set (i := 8) sc_law.nd rfl (Or.inl rfl) (pe_cal c_law_reduced hr (by rfl) (pa_cons (pe_op op_mulW (pe_ix ix_tup (pv 4) pe_int (fun _ _ => rfl)) (pe_ix ix_tup (pv 5) pe_int (fun _ _ => rfl))) (pa_cons (pe_op op_mulW (pe_ix ix_tup (pv 4) pe_int (fun _ _ => rfl)) (pe_ix ix_tup (pv 5) pe_int (fun _ _ => rfl))) pa_nil))))))))
      (pss_one (ps_if (pt_cmpR (op_neD hr.units) (pv 7) (pv 8) (nomark _)) (pss_one (ps_ret pe_bl)) pss_nil)))) pss_nil)
      (pss_cons (ps_set (i := 9) sc_law.nd rfl (Or.inl rfl) (pe_cal c_law_twice hr (by rfl) (pa_cons (pv 1) (pa_cons (pv 2) pa_nil))))
      (pss_cons (ps_if (pt_cmpR (op_neD hr.units) (pe_calL c_total hr (by rfl) (pa_cons (pv 9) pa_nil)) (pv 4) (nomark _)) (pss_one (ps_ret pe_bl)) pss_nil)
      (pss_one (ps_ret (pe_ifExp (pt_cmpR op_isN (pv 4) pe_non (nomark _)) (pe_cmpR op_isN (pe_calL c_worths hr (by rfl) (pa_cons (pv 9) pa_nil)) pe_non (nomark _)) (pe_cmpR (op_eqD hr.units) (pe_ix ix_tup (pe_calL c_worths hr (by rfl) (pa_cons (pv 9) pa_nil)) pe_int (fun _ _ => rfl)) (pv 4) (nomark _)))))))))))))), ?_⟩
  refine ⟨_, rfl, a, ns, rfl, hS, h63, fun P0 G S H1 s1 nP nG nS p1 => ?_⟩
  -- the machines
  refine ⟨_, rfl, _, rfl, P0, G, S, rfl, p1, fun am Hm ms sm pm nam eam l1 l2 hm => ?_⟩
  have nn := p1.ne_new nam
  refine ⟨P0, G, S, am, 6, ms, rfl, pm, by decide, by decide, eam, nn.1, nn.2, l1, l2, hm, fun v1 z1 rows1 H2 s2 p2 hv1 ok1 r1 hE1 => ?_⟩
  clear nam nn sm pm hm eam l1 l2
  refine ⟨_, rfl, _, rfl, P0, G, S, rfl, p2, fun am2 Hm2 ms2 sm pm nam eam l1 l2 hm => ?_⟩
  have nn := p2.ne_new nam
  refine ⟨P0, G, S, am2, 6, ms2, rfl, pm, by decide, by decide, eam, nn.1, nn.2, l1, l2, hm, fun v2 z2 rows2 H3 s3 p3 hv2 ok2 r2 hE2 => ⟨_, _, rfl, ?_⟩⟩
  have hv1 := (hv1.sb sm).sb s3
  clear nam nn sm pm hm eam l1 l2
  -- the totals
  refine ⟨_, rfl, AtP P0 G, v1, z1, rows1, rfl, hv1, ok1, fun f1 H4 s4 a4 => ⟨_, rfl, AtP P0 G, v2, z2, rows2, rfl, hv2.same s4, ok2, fun f2 H5 s5 a5 => ⟨_, _, rfl, ?_⟩⟩⟩
  have s45 := s4.trans s5
  have p5 := p3.same s45
  have b1 : At (AtP P0 G) H5 (FT (totO z1 rows1)) f1 := (a4.less fun a h => p3.trk a h).same s5
  have b2 : At (AtP P0 G) H5 (FT (totO z2 rows2)) f2 := a5.less fun a h => (p3.same s4).trk a h
  have hv1 := hv1.same s45
  have hv2 := hv2.same s45
  have t1 := totO_ok ok1
  have t2 := totO_ok ok2
  clear a4 a5 s4 s5 s45
  have hE59 : EndsLe 59 rows1 := fun r m e he => by have := hE1 r m e he; omega
  have okL := lat_ok ok1 hE59
  dsimp only [gName]
  -- later
  refine rd_ifx (fun H' => Same H5 H') (fun N hN => ?_) (fun H6 s6 => ?_)
  · refine ⟨_, rfl, AtP P0 G, v1, z1, rows1, rfl, hv1, ok1, p5.trk, fun w H6 s6 a6 => tot_call a6 okL fun u H7 s7 a7 => ?_⟩
    have s67 := s6.trans s7
    refine ⟨_, rfl, AtP P0 G, f1, totO z1 rows1, 1, rfl, b1.same s67, t1, by decide, fun w2 H8 s8 a8 => ?_⟩
    rw [tot_lat ok1 okL hE59] at a7
    exact ne_same (a7.same s8) a8 ⟨_, rfl, iteF (hN H8 (s67.trans s8))⟩
  have p6 := p5.same s6
  have b1 := b1.same s6
  have b2 := b2.same s6
  have hv1 := hv1.same s6
  have hv2 := hv2.same s6
  -- mores
  refine ⟨_, rfl, P0, G, S, 4, rfl, p6, by decide, by decide, fun m0 H7 m00 m01 s7 p7 => ⟨_, rfl, (by show 4 ≤ sizeLine; decide), fun c1 n1 => ?_⟩⟩
  have y1 := same_new n1 (.lst [V.int 0, V.int 1, V.int 9, V.int 60])
  have nn1 := p7.ne_new n1
  refine ⟨P0, G, S, c1, _, rfl, p7.same y1, upd_same, nn1.1, nn1.2, (by show 1 ≤ 4; decide), (by show 4 ≤ 1000; decide), fun v H8 mv s8 p8 => ?_⟩
  obtain ⟨m0, rfl⟩ : ∃ n : Nat, m0 = (n : Int) := ⟨m0.toNat, by omega⟩
  obtain ⟨m1, rfl, m1h⟩ : ∃ n : Nat, v = .int (n : Int) ∧ n ≤ 60 := by
    have : v = .int 0 ∨ v = .int 1 ∨ v = .int 9 ∨ v = .int 60 := by simpa using mv
    rcases this with rfl | rfl | rfl | rfl
    · exact ⟨0, rfl, by decide⟩
    · exact ⟨1, rfl, by decide⟩
    · exact ⟨9, rfl, by decide⟩
    · exact ⟨60, rfl, by decide⟩
  refine ⟨(by show 2 ≤ sizeLine; decide), fun M nM => ?_⟩
  have yM := same_new nM (.lst [V.int (m0 : Int), V.int (m1 : Int)])
  have s68 := (s7.trans (.of y1)).trans s8
  have p9 := p8.same yM
  have s69 := s68.trans (.of yM)
  have b1 := b1.sb s69
  have b2 := b2.sb s69
  have hv1 := hv1.sb s69
  have hv2 := hv2.sb s69
  have eM : (upd H8 M (.lst [V.int (m0 : Int), V.int (m1 : Int)])) M = some (.lst [V.int (m0 : Int), V.int (m1 : Int)]) := upd_same
  generalize upd H8 M (.lst [V.int (m0 : Int), V.int (m1 : Int)]) = H9 at *
  have m0h : m0 ≤ 60 := by omega
  have okU : MOk 8 (undL (m0 : Int) (m1 : Int) rows1 rows2) := und_ok ok1 ok2 (by omega) (by omega) (by omega) (by omega) (by omega)
  dsimp only [gName]
  -- under
  refine rd_ifx (fun H' => Same H9 H') (fun N hN => ?_) (fun H10 s10 => ?_)
  · refine ⟨_, rfl, _, rfl, _, rfl, AtP P0 G, v1, v2, M, z1, rows1, z2, rows2, _, _, rfl, hv1, hv2, ok1, ok2, eM, p9.trk, fun w H6 s6 a6 => tot_call a6 okU fun u H7 s7 a7 => ?_⟩
    have s67 := s6.trans s7
    refine ⟨_, rfl, _, rfl, M, _, 0, _, rfl, rfl, .inl (.of (s67 _ _ eM)), atI_nat (j := 0) rfl, AtP P0 G, f1, totO z1 rows1, m0, rfl, b1.same s67, t1, m0h, fun w1 H8 s8 a8 => ?_⟩
    have s68 := s67.trans s8
    refine ⟨_, rfl, _, rfl, M, _, 1, _, rfl, rfl, .inl (.of (s68 _ _ eM)), atI_nat (j := 1) rfl, AtP P0 G, f2, totO z2 rows2, m1, rfl, b2.same s68, t2, m1h, fun w2 H10 s10 a10 => ?_⟩
    refine ⟨fun _ => False, w1, w2, partO m0 (totO z1 rows1), partO m1 (totO z2 rows2), rfl, (a8.same s10).any, a10.any, partO_ok m0h t1, partO_ok m1h t2, fun w3 H11 s11 a11 => ?_⟩
    rw [tot_und ok1 ok2 m0h m1h okU] at a7
    exact ne_same (((a7.same s8).same s10).same s11) a11 ⟨_, rfl, iteF (hN H11 ((s68.trans s10).trans s11))⟩
  have p10 := p9.same s10
  have b1 := b1.same s10
  have b2 := b2.same s10
  have hv1 := hv1.same s10
  have hv2 := hv2.same s10
  -- behind
  refine rd_ifz (fun σ' H' => Same H10 H' ∧ ∃ y7 y8 : Option V, σ' = [some (.ref a), some (.ref P0), some v1, some v2, some f1, some f2, some (.ref M), y7, y8, none]) (fun N hN => ?_) (fun σ' H11 h11 => ?_)
  · obtain ⟨pp, ppr, us, rfl, epp, _, _, _⟩ := At.mach hv1
    refine ⟨_, rfl, pp, _, 0, _, rfl, rfl, .of epp, rfl, _, _, rfl, rfl, _, rfl, iteB (fun e => ?_) (fun e => ?_)⟩
    rotate_left
    · exact hN _ _ ⟨Same.refl _, _, _, rfl⟩
    have z7 : z1 ≤ 7 := by have := of_decide_eq_true e; omega
    have okB := beh_ok ok1 ok2 (by omega) z7
    refine ⟨_, rfl, _, rfl, AtP P0 G, _, v2, z1, rows1, z2, rows2, rfl, hv1, hv2, ok1, ok2, z7, p10.trk, fun w H6 s6 a6 => tot_call a6 okB fun u H7 s7 a7 => ?_⟩
    have s67 := s6.trans s7
    have b1 := b1.same s67
    have b2 := b2.same s67
    have p12 := p10.same s67
    dsimp only [gName]
    refine rd_seq (fun σ' H' => Same H7 H' ∧ ∃ w8, At (fun _ => False) H' (FT (totO 8 (behL rows1 rows2))) w8 ∧ σ' = [some (.ref a), some (.ref P0), some (.ref pp), some v2, some f1, some f2, some (.ref M), some u, some w8, none]) (fun N2 hN2 => ?_) (fun σ' H8 h8 => ?_)
    · -- due
      have nought : ∀ (H' : Hp), Same H7 H' → ∀ c1, H' c1 = none → (totO z1 rows1 = some (0, 1) ∨ totO z2 rows2 = some (0, 1)) → ∀ Q : L2.St → Hp → Prop, True := fun _ _ _ _ _ _ => trivial
      refine ⟨_, rfl, (by show 2 ≤ sizeLine; decide), fun c1 n1 => ?_⟩
      have y1 := same_new n1 (.tup [V.int 0, V.int 1])
      refine eq_nought (b1.same y1) (show At (fun _ => False) _ (FT (some (0, 1))) (.ref c1) from ⟨c1, _, rfl, fun h => h, upd_same, .cons rfl (.cons rfl .nil)⟩) ⟨_, rfl, iteB (fun e1 => ?_) (fun e1 => ?_)⟩
      · refine ⟨(by show 2 ≤ sizeLine; decide), fun c2 n2 => hN2 _ _ ⟨y1.trans (same_new n2 _), _, ?_, rfl⟩⟩
        rw [tot_beh0 ok1 ok2 okB (.inl (of_decide_eq_true e1))]
        exact ⟨c2, _, rfl, fun h => h, upd_same, .cons rfl (.cons rfl .nil)⟩
      have ne1 := of_decide_eq_false e1
      refine ⟨_, rfl, (by show 2 ≤ sizeLine; decide), fun c2 n2 => ?_⟩
      have y2 := same_new n2 (.tup [V.int 0, V.int 1])
      have y12 := y1.trans y2
      refine eq_nought (b2.same y12) (show At (fun _ => False) _ (FT (some (0, 1))) (.ref c2) from ⟨c2, _, rfl, fun h => h, upd_same, .cons rfl (.cons rfl .nil)⟩) ⟨_, rfl, iteB (fun e2 => ?_) (fun e2 => ?_)⟩
      · refine ⟨(by show 2 ≤ sizeLine; decide), fun c3 n3 => hN2 _ _ ⟨y12.trans (same_new n3 _), _, ?_, rfl⟩⟩
        rw [tot_beh0 ok1 ok2 okB (.inr (of_decide_eq_true e2))]
        exact ⟨c3, _, rfl, fun h => h, upd_same, .cons rfl (.cons rfl .nil)⟩
      have ne2 := of_decide_eq_false e2
      have d1 := b1.same y12
      have d2 := b2.same y12
      generalize upd (upd H7 c1 (.tup [V.int 0, V.int 1])) c2 (.tup [V.int 0, V.int 1]) = H13 at *
      rcases FT_non d1 with ⟨o1, rfl⟩ | ⟨⟨x1, y1'⟩, g1, o1, rfl⟩
      · refine ⟨_, rfl, rfl, _, rfl, iteT (hN2 _ _ ⟨y12, .non, ?_, rfl⟩)⟩
        rw [tot_behN ok1 ok2 okB ne1 ne2 (.inl o1)]; rfl
      rcases FT_non d2 with ⟨o2, rfl⟩ | ⟨⟨x2, y2'⟩, g2, o2, rfl⟩
      · refine ⟨_, rfl, rfl, _, rfl, iteF ⟨_, rfl, rfl, _, rfl, iteT (hN2 _ _ ⟨y12, .non, ?_, rfl⟩)⟩⟩
        rw [tot_behN ok1 ok2 okB ne1 ne2 (.inr o2)]; rfl
      refine ⟨_, rfl, rfl, _, rfl, iteF ⟨_, rfl, rfl, _, rfl, iteF ?_⟩⟩
      rw [o1] at d1 t1
      rw [o2] at d2 t2
      obtain ⟨k1, va, vb, ek1, ep1, q1, q2⟩ := At.pair (show At (AtP P0 G) H13 (.tup [.int x1, .int y1']) (.ref g1) from d1)
      obtain ⟨k2, vc, ve, ek2, ep2, q3, q4⟩ := At.pair (show At (AtP P0 G) H13 (.tup [.int x2, .int y2']) (.ref g2) from d2)
      cases ek1
      cases ek2
      cases (show va = V.int x1 from q1)
      cases (show vb = V.int y1' from q2)
      cases (show vc = V.int x2 from q3)
      cases (show ve = V.int y2' from q4)
      obtain ⟨bp1, sx1, sy1⟩ := t1 _ _ rfl
      obtain ⟨bp2, sx2, sy2⟩ := t2 _ _ rfl
      have cm : ∀ {x y : Int}, x.natAbs < 2 ^ 4000 → y.natAbs < 2 ^ 4000 → CMulW x y := fun h1 h2 => wide_mul h1 h2 (by decide) (by decide) (by decide)
      have be := Int.mul_pos bp1 bp2
      refine ⟨_, rfl, g1, _, 0, _, rfl, rfl, .of ep1, rfl, _, rfl, g2, _, 0, _, rfl, rfl, .of ep2, rfl, _, _, rfl, rfl, cm sx1 sx2, _, rfl, g1, _, 1, _, rfl, rfl, .of ep1, rfl, _, rfl, g2, _, 1, _, rfl, rfl, .of ep2, rfl, _, _, rfl, rfl, cm sy1 sy2, ?_⟩
      refine ⟨_, _, rfl, by omega, Nat.lt_of_lt_of_le (wide_lt sy1 sy2) (Nat.pow_le_pow_right (by decide) (by decide)), fun p3 H' s' n3 e3 => hN2 _ _ ⟨y12.trans s', _, ?_, rfl⟩⟩
      rw [tot_beh ok1 ok2 okB o1 o2]
      have := sgP_low (a := x1 * x2) be
      rw [show FT (some (lowP ((x1, y1').1 * (x2, y2').1) ((x1, y1').2 * (x2, y2').2))) = sgP (x1 * x2) (y1' * y2') from this.symm]
      exact ⟨p3, _, rfl, fun h => h, e3, .cons rfl (.cons rfl .nil)⟩
    obtain ⟨s8, w8, a8, rfl⟩ := h8
    refine ⟨_, rfl, _, rfl, ?_⟩
    exact ne_same (a7.same s8) a8 ⟨_, rfl, iteF (hN _ _ ⟨s67.trans s8, _, _, rfl⟩)⟩
  obtain ⟨s11, y7, y8, rfl⟩ := h11
  have p11 := p10.same s11
  have b1 := b1.same s11
  have hv1 := hv1.same s11
  -- twice
  refine ⟨_, rfl, _, rfl, P0, G, S, v1, z1, rows1, rfl, p11, hv1, ok1, by omega, fun v3 rows3 H12 s12 p12 hv3 tw ok3 => ?_⟩
  have b1 := b1.sb s12
  have et := tot_twi tw ok1 ok3
  dsimp only [gName]
  refine rd_ifx (fun H' => Same H12 H') (fun N hN => ?_) (fun H13 s13 => ?_)
  · refine ⟨_, rfl, tot_call hv3 ok3 fun u H7 s7 a7 => ⟨_, rfl, ?_⟩⟩
    rw [et] at a7
    exact ne_same a7 (b1.same s7) ⟨_, rfl, iteF (hN H7 s7)⟩
  have b1 := b1.same s13
  have hv3 := hv3.same s13
  rcases FT_non b1 with ⟨o1, rfl⟩ | ⟨⟨x1, y1'⟩, g1, o1, rfl⟩
  · refine ⟨_, rfl, rfl, _, rfl, iteT ⟨_, rfl, AtP P0 G, v3, _, rfl, hv3, ok3.short, fun z' rows' e1 ok' => ?_, fun mb => absurd (mb.symm.trans ok3.mach) (by decide)⟩⟩
    obtain ⟨rfl, rfl⟩ := mach_inj e1
    refine ⟨fun hp => ?_, fun _ H' s' => ⟨rfl, q _⟩⟩
    rw [o1, totO_some hp] at et
    cases et
  · refine ⟨_, rfl, rfl, _, rfl, iteF ⟨_, rfl, AtP P0 G, v3, _, rfl, hv3, ok3.short, fun z' rows' e1 ok' => ?_, fun mb => absurd (mb.symm.trans ok3.mach) (by decide)⟩⟩
    obtain ⟨rfl, rfl⟩ := mach_inj e1
    refine ⟨fun hp v5 H' s' a5 => ?_, fun hn => ?_⟩
    · obtain ⟨pw, ws, rfl, npw, epw, aw⟩ := id a5
      have n1 := (trimL_ok ok3).n1
      have g0 : (wosL (trimL z1 rows3))[0]? = some (frT (Yk (eqr (trimL z1 rows3)) (trimL z1 rows3).length 0 (trimL z1 rows3).length) (dk (eqr (trimL z1 rows3)) (trimL z1 rows3).length)) := by rw [List.getElem?_map, List.getElem?_range (by omega)]; rfl
      obtain ⟨v0, ev0, a0⟩ := aw.at g0
      have a0 : At (Trk H13) H' (FT (some (topT (trimL z1 rows3), botT (trimL z1 rows3)))) v0 := a0
      rw [← totO_some hp, et] at a0
      exact ⟨pw, ws, 0, v0, rfl, rfl, .of epw, atI_nat ev0, _, rfl, eq_same a0 (b1.same s') (q _)⟩
    · rw [o1, totO_none hn] at et
      cases et
end
end KL
end
section
set_option maxHeartbeats 4000000
namespace KL
open PySem PySem.Spec PyProof.Rows L2
/-- a def of the text, as the top has left it -/
theorem def_mk {K : PySem.W.Frag} {h : Heap} {mg : Str → Option Value} {x : Str} {st : Stmt} {ps : List Str} {f : Addr} {oc kV dc pm cd ct : Value} {od an : Option Addr} {sl : Array (Option Value)} (X : K.In h) (G : h.Ns mainGlobals mg)
    (a : PySem.W.nsIn K mainGlobals x = some (some (.ref f))) (l : K.lookup f = some ⟨oc, od, .func (PySem.W.fnOf x x (defArgs st) (defBody st) (defScope st) .none kV dc pm an cd ct), sl⟩) (c : PySem.W.codeIn K cd x = true) (k : PySem.W.keepIn K (.ref f) = true)
    (b : ∀ (kV doc pm : Value) (an : Option Addr) (cdv ct : Value) (us : List Value), us.length = ps.length → bindArgs (PySem.W.fnOf x x (defArgs st) (defBody st) (defScope st) .none kV doc pm an cdv ct) ⟨us, []⟩ = pure (ps.zip us)) : Def K mg x st ps :=
  have F := fun_mk (st := st) l c k
  ⟨_, _, F, PySem.W.mg_of X G a, F.binds b⟩
/-- an error of the class S by a handler of the class S' -/
theorem caught {K : PySem.W.Frag} {S S' : Addr} {b : Bool} (h1 : PySem.W.subIn K (.ref S') (.type "BaseException") = some true) (h2 : PySem.W.isClsIn K S' = true) (h3 : PySem.W.typeIn K (.ref S') = some (.type "type")) (h4 : PySem.W.subIn K (.ref S) (.ref S') = some b) : PySem.W.exmOne K (.ref S) (.ref S') = some b := by
  have g : (PySem.W.clsIn K S').isSome = true := h2
  unfold PySem.W.exmOne PySem.W.kitCls
  rw [h1]
  simp only [beq_self_eq_true, if_true, g, h3, h4, Bool.and_self]
/-- all that the law leans on -/
structure Facts (K : PySem.W.Frag) (mg : Str → Option Value) (fa : Addr) : Prop where
  Z : Zs mg
  M : ∃ t1 t2 t3, Ms mg t1 t2 t3
  T : ∃ C_NoMachine, Er K mg "NoMachine" C_NoMachine
  G : Gs mg
  Ga : Ga mg
  Gd : Gdi mg
  is_number : Def K mg "is_number" s_is_number ["thing"]
  is_within : Def K mg "is_within" s_is_within ["thing", "low", "high"]
  is_pair : Def K mg "is_pair" s_is_pair ["thing"]
  is_machine : Def K mg "is_machine" s_is_machine ["thing"]
  is_framed : Def K mg "is_framed" s_is_framed ["thing"]
  is_size : Def K mg "is_size" s_is_size ["thing"]
  is_row : Def K mg "is_row" s_is_row ["thing", "size", "states"]
  is_step : Def K mg "is_step" s_is_step ["thing", "states"]
  demand_machine : Def K mg "demand_machine" s_demand_machine ["thing"]
  trimmed : Def K mg "trimmed" s_trimmed ["machine"]
  trimmed_of : Def K mg "trimmed_of" s_trimmed_of ["machine"]
  textless : Def K mg "textless" s_textless ["size"]
  nexts : Def K mg "nexts" s_nexts ["rows"]
  befores : Def K mg "befores" s_befores ["rows"]
  spread : Def K mg "spread" s_spread ["starts", "ways"]
  renumbered : Def K mg "renumbered" s_renumbered ["row", "numbers"]
  renumbered_step : Def K mg "renumbered_step" s_renumbered_step ["step", "numbers"]
  total : Def K mg "total" s_total ["machine"]
  worths : Def K mg "worths" s_worths ["machine"]
  lowest : Def K mg "lowest" s_lowest ["top", "bottom"]
  shares : Def K mg "shares" s_shares ["row", "states"]
  equation : Def K mg "equation" s_equation ["rows", "state"]
  solved : Def K mg "solved" s_solved ["table"]
  cleared : Def K mg "cleared" s_cleared ["row", "chosen", "at", "last"]
  law_pot : Def K mg "_law_pot" s_law_pot ["_law_script"]
  law_draw : Def K mg "_law_draw" s_law_draw ["_law_pot_here", "_law_many"]
  law_any : Def K mg "_law_any" s_law_any ["_law_pot_here", "_law_items"]
  law_power : Def K mg "_law_power" s_law_power ["_law_many"]
  law_machine : Def K mg "_law_machine" s_law_machine ["_law_pot_here", "_law_most", "_law_mores"]
  law_menu : Def K mg "_law_menu" s_law_menu ["_law_pot_here"]
  law_trim : Def K mg "_law_trim" s_law_trim ["_law_machine_here"]
  law_gcd : Def K mg "_law_gcd" s_law_gcd ["_law_one", "_law_other"]
  law_reduced : Def K mg "_law_reduced" s_law_reduced ["_law_top", "_law_bottom"]
  law_plus : Def K mg "_law_plus" s_law_plus ["_law_one", "_law_other"]
  law_lighter : Def K mg "_law_lighter" s_law_lighter ["_law_row"]
  law_worths : Def K mg "_law_worths" s_law_worths ["_law_small"]
  law_total : Def K mg "_law_total" s_law_total ["_law_machine_here"]
  law_moved : Def K mg "_law_moved" s_law_moved ["_law_rows", "_law_many"]
  law_later : Def K mg "_law_later" s_law_later ["_law_machine_here"]
  law_under : Def K mg "_law_under" s_law_under ["_law_one", "_law_other", "_law_mores"]
  law_behind : Def K mg "_law_behind" s_law_behind ["_law_one", "_law_other"]
  law_twice : Def K mg "_law_twice" s_law_twice ["_law_pot_here", "_law_machine_here"]
  law_sum : Def K mg "_law_sum" s_law_sum ["_law_one", "_law_other"]
  law_part : Def K mg "_law_part" s_law_part ["_law_one", "_law_more"]
  law : ∃ fd, Fun K "law" "law" s_law fa fd ∧ Binds K fd ["_law_script"] []
theorem Facts.fn {K : PySem.W.Frag} {mg : Str → Option Value} {fa : Addr} (F : Facts K mg fa) {P : Program} {w : World} : ∃ fd : FuncData, (∀ (s : Shared) (u : Value), BindsTo s fd ⟨[u], []⟩ [("_law_script", u)]) ∧ ∀ base : Heap, K.In base → base.Ns mainGlobals mg → FnOk P w K mg base CX0 12 fa fd ["_law_script"] (spLaw K) := by
  obtain ⟨t1, t2, t3, M⟩ := F.M
  obtain ⟨C_NoMachine, E_NoMachine⟩ := F.T
  obtain ⟨fd, fl, bl⟩ := F.law
  have Z := F.Z
  refine ⟨fd, fun s u => ?_, fun base _ _ => ?_⟩
  · obtain ⟨oc, od, kV, doc, pm, an, cdv, ct, osl, rfl, lk, hcd⟩ := fl.ex
    exact .of_eq rfl
  have G := F.G
  have Ga := F.Ga
  have Gd := F.Gd
  have n1 := ok_is_number (P := P) (w := w) (base := base) (k := 0) Z F.is_number
  have p1 := ok_is_pair (P := P) (w := w) (base := base) (k := 0) Z F.is_pair
  have w2 := ok_is_within (k := 1) n1 F.is_within
  have z3 := ok_is_size (k := 2) M w2 F.is_size
  have s3 := ok_is_step (k := 2) M (p1.mono (by omega)) w2 F.is_step
  have r4 := ok_is_row (k := 3) Z M (p1.mono (by omega)) (w2.mono (by omega)) s3 F.is_row
  have fr4 := ok_is_framed (k := 3) Z M (p1.mono (by omega)) z3 F.is_framed
  have m5 := ok_is_machine (k := 4) Z fr4 r4 F.is_machine
  have dm6 := ok_demand_machine (k := 5) E_NoMachine m5 F.demand_machine
  have ne1 := ok_nexts (P := P) (w := w) (base := base) (k := 0) F.nexts
  have be2 := ok_befores (k := 1) Z ne1 F.befores
  have sp1 := ok_spread (P := P) (w := w) (base := base) (k := 0) Z F.spread
  have rs1 := ok_renumbered_step (P := P) (w := w) (base := base) (k := 0) F.renumbered_step
  have rn2 := ok_renumbered (k := 1) Z rs1 F.renumbered
  have tl1 := ok_textless (P := P) (w := w) (base := base) (k := 0) F.textless
  have tf3 := ok_trimmed_of (k := 2) Z (ne1.mono (by omega)) be2 (sp1.mono (by omega)) rn2 (tl1.mono (by omega)) F.trimmed_of
  have tr7 := ok_trimmed (k := 6) dm6 (tf3.mono (by omega)) F.trimmed
  have sh1 := ok_shares (P := P) (w := w) (base := base) (k := 0) M F.shares
  have eq2 := ok_equation (k := 1) Z M sh1 F.equation
  have lo1 := ok_lowest (P := P) (w := w) (base := base) (k := 0) G F.lowest
  have cl1 := ok_cleared (P := P) (w := w) (base := base) (k := 0) G F.cleared
  have so2 := ok_solved (k := 1) Z lo1 cl1 F.solved
  have wo8 := ok_worths (k := 7) Z tr7 (eq2.mono (by omega)) (so2.mono (by omega)) F.worths
  have to9 := tot_one (ok_total (k := 8) wo8 F.total)
  have po1 := ok_law_pot (P := P) (w := w) (base := base) (k := 0) Ga Z F.law_pot
  have dr1 := ok_law_draw' (P := P) (w := w) (base := base) (k := 0) Z F.law_draw
  have an2 := ok_law_any' (k := 1) Z dr1 F.law_any
  have pw1 := ok_law_power (P := P) (w := w) (base := base) (k := 0) Z F.law_power
  have ma3 := ok_law_machine' (k := 2) Z (dr1.mono (by omega)) an2 F.law_machine
  have me3 := ok_law_menu' (k := 2) an2 F.law_menu
  have ti1 := ok_law_trim (P := P) (w := w) (base := base) (k := 0) Z Gd F.law_trim
  have gc1 := ok_law_gcd (P := P) (w := w) (base := base) (k := 0) Ga Z F.law_gcd
  have re2 := ok_law_reduced (k := 1) gc1 F.law_reduced
  have li2 := ok_law_lighter (k := 1) gc1 F.law_lighter
  have lw3 := own_one (ok_law_worths (k := 2) Z (pw1.mono (by omega)) li2 re2 F.law_worths)
  have lt4 := ok_law_total (k := 3) (ti1.mono (by omega)) lw3 F.law_total
  have pl3 := ok_law_plus (k := 2) re2 F.law_plus
  have su4 := ok_law_sum (k := 3) pl3 F.law_sum
  have pa3 := ok_law_part (k := 2) re2 (pw1.mono (by omega)) F.law_part
  have mo1 := ok_law_moved (P := P) (w := w) (base := base) (k := 0) Z F.law_moved
  have la1 := ok_law_later (P := P) (w := w) (base := base) (k := 0) Z F.law_later
  have un2 := ok_law_under (k := 1) Z mo1 F.law_under
  have bh2 := ok_law_behind (k := 1) Z mo1 F.law_behind
  have tw2 := ok_law_twice (k := 1) Z dr1 F.law_twice
  exact ok_law (k := 11) Z (po1.mono (by omega)) (dr1.mono (by omega)) (an2.mono (by omega)) (me3.mono (by omega)) (ma3.mono (by omega)) (lt4.mono (by omega)) (la1.mono (by omega)) (pa3.mono (by omega)) (su4.mono (by omega)) (un2.mono (by omega)) (bh2.mono (by omega)) (re2.mono (by omega)) (tw2.mono (by omega)) (wo8.mono (by omega)) (to9.mono (by omega)) fl
theorem facts_mk {K : PySem.W.Frag} {h : Heap} {mg : Str → Option Value} {fa C_NoMachine  : Addr} {t1 t2 t3 : Tok} (X : K.In h) (G : h.Ns mainGlobals mg) (hfa : mg "law" = some (.ref fa))
    {f0 : Addr} {oc0 kV0 dc0 pm0 cd0 ct0 : Value} {od0 an0 : Option Addr} {sl0 : Array (Option Value)}
    {f1 : Addr} {oc1 kV1 dc1 pm1 cd1 ct1 : Value} {od1 an1 : Option Addr} {sl1 : Array (Option Value)}
    {f2 : Addr} {oc2 kV2 dc2 pm2 cd2 ct2 : Value} {od2 an2 : Option Addr} {sl2 : Array (Option Value)}
    {f3 : Addr} {oc3 kV3 dc3 pm3 cd3 ct3 : Value} {od3 an3 : Option Addr} {sl3 : Array (Option Value)}
    {f4 : Addr} {oc4 kV4 dc4 pm4 cd4 ct4 : Value} {od4 an4 : Option Addr} {sl4 : Array (Option Value)}
    {f5 : Addr} {oc5 kV5 dc5 pm5 cd5 ct5 : Value} {od5 an5 : Option Addr} {sl5 : Array (Option Value)}
    {f6 : Addr} {oc6 kV6 dc6 pm6 cd6 ct6 : Value} {od6 an6 : Option Addr} {sl6 : Array (Option Value)}
    {f7 : Addr} {oc7 kV7 dc7 pm7 cd7 ct7 : Value} {od7 an7 : Option Addr} {sl7 : Array (Option Value)}
    {f8 : Addr} {oc8 kV8 dc8 pm8 cd8 ct8 : Value} {od8 an8 : Option Addr} {sl8 : Array (Option Value)}
    {f9 : Addr} {oc9 kV9 dc9 pm9 cd9 ct9 : Value} {od9 an9 : Option Addr} {sl9 : Array (Option Value)}
    {f10 : Addr} {oc10 kV10 dc10 pm10 cd10 ct10 : Value} {od10 an10 : Option Addr} {sl10 : Array (Option Value)}
    {f11 : Addr} {oc11 kV11 dc11 pm11 cd11 ct11 : Value} {od11 an11 : Option Addr} {sl11 : Array (Option Value)}
    {f12 : Addr} {oc12 kV12 dc12 pm12 cd12 ct12 : Value} {od12 an12 : Option Addr} {sl12 : Array (Option Value)}
    {f13 : Addr} {oc13 kV13 dc13 pm13 cd13 ct13 : Value} {od13 an13 : Option Addr} {sl13 : Array (Option Value)}
    {f14 : Addr} {oc14 kV14 dc14 pm14 cd14 ct14 : Value} {od14 an14 : Option Addr} {sl14 : Array (Option Value)}
    {f15 : Addr} {oc15 kV15 dc15 pm15 cd15 ct15 : Value} {od15 an15 : Option Addr} {sl15 : Array (Option Value)}
    {f16 : Addr} {oc16 kV16 dc16 pm16 cd16 ct16 : Value} {od16 an16 : Option Addr} {sl16 : Array (Option Value)}
    {f17 : Addr} {oc17 kV17 dc17 pm17 cd17 ct17 : Value} {od17 an17 : Option Addr} {sl17 : Array (Option Value)}
    {f18 : Addr} {oc18 kV18 dc18 pm18 cd18 ct18 : Value} {od18 an18 : Option Addr} {sl18 : Array (Option Value)}
    {f19 : Addr} {oc19 kV19 dc19 pm19 cd19 ct19 : Value} {od19 an19 : Option Addr} {sl19 : Array (Option Value)}
    {f20 : Addr} {oc20 kV20 dc20 pm20 cd20 ct20 : Value} {od20 an20 : Option Addr} {sl20 : Array (Option Value)}
    {f21 : Addr} {oc21 kV21 dc21 pm21 cd21 ct21 : Value} {od21 an21 : Option Addr} {sl21 : Array (Option Value)}
    {f22 : Addr} {oc22 kV22 dc22 pm22 cd22 ct22 : Value} {od22 an22 : Option Addr} {sl22 : Array (Option Value)}
    {f23 : Addr} {oc23 kV23 dc23 pm23 cd23 ct23 : Value} {od23 an23 : Option Addr} {sl23 : Array (Option Value)}
    {f24 : Addr} {oc24 kV24 dc24 pm24 cd24 ct24 : Value} {od24 an24 : Option Addr} {sl24 : Array (Option Value)}
    {f25 : Addr} {oc25 kV25 dc25 pm25 cd25 ct25 : Value} {od25 an25 : Option Addr} {sl25 : Array (Option Value)}
    {f26 : Addr} {oc26 kV26 dc26 pm26 cd26 ct26 : Value} {od26 an26 : Option Addr} {sl26 : Array (Option Value)}
    {f27 : Addr} {oc27 kV27 dc27 pm27 cd27 ct27 : Value} {od27 an27 : Option Addr} {sl27 : Array (Option Value)}
    {f28 : Addr} {oc28 kV28 dc28 pm28 cd28 ct28 : Value} {od28 an28 : Option Addr} {sl28 : Array (Option Value)}
    {f29 : Addr} {oc29 kV29 dc29 pm29 cd29 ct29 : Value} {od29 an29 : Option Addr} {sl29 : Array (Option Value)}
    {f30 : Addr} {oc30 kV30 dc30 pm30 cd30 ct30 : Value} {od30 an30 : Option Addr} {sl30 : Array (Option Value)}
    {f31 : Addr} {oc31 kV31 dc31 pm31 cd31 ct31 : Value} {od31 an31 : Option Addr} {sl31 : Array (Option Value)}
    {f32 : Addr} {oc32 kV32 dc32 pm32 cd32 ct32 : Value} {od32 an32 : Option Addr} {sl32 : Array (Option Value)}
    {f33 : Addr} {oc33 kV33 dc33 pm33 cd33 ct33 : Value} {od33 an33 : Option Addr} {sl33 : Array (Option Value)}
    {f34 : Addr} {oc34 kV34 dc34 pm34 cd34 ct34 : Value} {od34 an34 : Option Addr} {sl34 : Array (Option Value)}
    {f35 : Addr} {oc35 kV35 dc35 pm35 cd35 ct35 : Value} {od35 an35 : Option Addr} {sl35 : Array (Option Value)}
    {f36 : Addr} {oc36 kV36 dc36 pm36 cd36 ct36 : Value} {od36 an36 : Option Addr} {sl36 : Array (Option Value)}
    {f37 : Addr} {oc37 kV37 dc37 pm37 cd37 ct37 : Value} {od37 an37 : Option Addr} {sl37 : Array (Option Value)}
    {f38 : Addr} {oc38 kV38 dc38 pm38 cd38 ct38 : Value} {od38 an38 : Option Addr} {sl38 : Array (Option Value)}
    {f39 : Addr} {oc39 kV39 dc39 pm39 cd39 ct39 : Value} {od39 an39 : Option Addr} {sl39 : Array (Option Value)}
    {f40 : Addr} {oc40 kV40 dc40 pm40 cd40 ct40 : Value} {od40 an40 : Option Addr} {sl40 : Array (Option Value)}
    {f41 : Addr} {oc41 kV41 dc41 pm41 cd41 ct41 : Value} {od41 an41 : Option Addr} {sl41 : Array (Option Value)}
    {f42 : Addr} {oc42 kV42 dc42 pm42 cd42 ct42 : Value} {od42 an42 : Option Addr} {sl42 : Array (Option Value)}
    {f43 : Addr} {oc43 kV43 dc43 pm43 cd43 ct43 : Value} {od43 an43 : Option Addr} {sl43 : Array (Option Value)}
    {f44 : Addr} {oc44 kV44 dc44 pm44 cd44 ct44 : Value} {od44 an44 : Option Addr} {sl44 : Array (Option Value)}
    (a0 : PySem.W.nsIn K mainGlobals "is_number" = some (some (.ref f0))) (l0 : K.lookup f0 = some ⟨oc0, od0, .func (PySem.W.fnOf "is_number" "is_number" (defArgs s_is_number) (defBody s_is_number) (defScope s_is_number) .none kV0 dc0 pm0 an0 cd0 ct0), sl0⟩) (c0 : PySem.W.codeIn K cd0 "is_number" = true) (k0 : PySem.W.keepIn K (.ref f0) = true)
    (a1 : PySem.W.nsIn K mainGlobals "is_within" = some (some (.ref f1))) (l1 : K.lookup f1 = some ⟨oc1, od1, .func (PySem.W.fnOf "is_within" "is_within" (defArgs s_is_within) (defBody s_is_within) (defScope s_is_within) .none kV1 dc1 pm1 an1 cd1 ct1), sl1⟩) (c1 : PySem.W.codeIn K cd1 "is_within" = true) (k1 : PySem.W.keepIn K (.ref f1) = true)
    (a2 : PySem.W.nsIn K mainGlobals "is_pair" = some (some (.ref f2))) (l2 : K.lookup f2 = some ⟨oc2, od2, .func (PySem.W.fnOf "is_pair" "is_pair" (defArgs s_is_pair) (defBody s_is_pair) (defScope s_is_pair) .none kV2 dc2 pm2 an2 cd2 ct2), sl2⟩) (c2 : PySem.W.codeIn K cd2 "is_pair" = true) (k2 : PySem.W.keepIn K (.ref f2) = true)
    (a3 : PySem.W.nsIn K mainGlobals "is_machine" = some (some (.ref f3))) (l3 : K.lookup f3 = some ⟨oc3, od3, .func (PySem.W.fnOf "is_machine" "is_machine" (defArgs s_is_machine) (defBody s_is_machine) (defScope s_is_machine) .none kV3 dc3 pm3 an3 cd3 ct3), sl3⟩) (c3 : PySem.W.codeIn K cd3 "is_machine" = true) (k3 : PySem.W.keepIn K (.ref f3) = true)
    (a4 : PySem.W.nsIn K mainGlobals "is_framed" = some (some (.ref f4))) (l4 : K.lookup f4 = some ⟨oc4, od4, .func (PySem.W.fnOf "is_framed" "is_framed" (defArgs s_is_framed) (defBody s_is_framed) (defScope s_is_framed) .none kV4 dc4 pm4 an4 cd4 ct4), sl4⟩) (c4 : PySem.W.codeIn K cd4 "is_framed" = true) (k4 : PySem.W.keepIn K (.ref f4) = true)
    (a5 : PySem.W.nsIn K mainGlobals "is_size" = some (some (.ref f5))) (l5 : K.lookup f5 = some ⟨oc5, od5, .func (PySem.W.fnOf "is_size" "is_size" (defArgs s_is_size) (defBody s_is_size) (defScope s_is_size) .none kV5 dc5 pm5 an5 cd5 ct5), sl5⟩) (c5 : PySem.W.codeIn K cd5 "is_size" = true) (k5 : PySem.W.keepIn K (.ref f5) = true)
    (a6 : PySem.W.nsIn K mainGlobals "is_row" = some (some (.ref f6))) (l6 : K.lookup f6 = some ⟨oc6, od6, .func (PySem.W.fnOf "is_row" "is_row" (defArgs s_is_row) (defBody s_is_row) (defScope s_is_row) .none kV6 dc6 pm6 an6 cd6 ct6), sl6⟩) (c6 : PySem.W.codeIn K cd6 "is_row" = true) (k6 : PySem.W.keepIn K (.ref f6) = true)
    (a7 : PySem.W.nsIn K mainGlobals "is_step" = some (some (.ref f7))) (l7 : K.lookup f7 = some ⟨oc7, od7, .func (PySem.W.fnOf "is_step" "is_step" (defArgs s_is_step) (defBody s_is_step) (defScope s_is_step) .none kV7 dc7 pm7 an7 cd7 ct7), sl7⟩) (c7 : PySem.W.codeIn K cd7 "is_step" = true) (k7 : PySem.W.keepIn K (.ref f7) = true)
    (a8 : PySem.W.nsIn K mainGlobals "demand_machine" = some (some (.ref f8))) (l8 : K.lookup f8 = some ⟨oc8, od8, .func (PySem.W.fnOf "demand_machine" "demand_machine" (defArgs s_demand_machine) (defBody s_demand_machine) (defScope s_demand_machine) .none kV8 dc8 pm8 an8 cd8 ct8), sl8⟩) (c8 : PySem.W.codeIn K cd8 "demand_machine" = true) (k8 : PySem.W.keepIn K (.ref f8) = true)
    (a9 : PySem.W.nsIn K mainGlobals "trimmed" = some (some (.ref f9))) (l9 : K.lookup f9 = some ⟨oc9, od9, .func (PySem.W.fnOf "trimmed" "trimmed" (defArgs s_trimmed) (defBody s_trimmed) (defScope s_trimmed) .none kV9 dc9 pm9 an9 cd9 ct9), sl9⟩) (c9 : PySem.W.codeIn K cd9 "trimmed" = true) (k9 : PySem.W.keepIn K (.ref f9) = true)
    (a10 : PySem.W.nsIn K mainGlobals "trimmed_of" = some (some (.ref f10))) (l10 : K.lookup f10 = some ⟨oc10, od10, .func (PySem.W.fnOf "trimmed_of" "trimmed_of" (defArgs s_trimmed_of) (defBody s_trimmed_of) (defScope s_trimmed_of) .none kV10 dc10 pm10 an10 cd10 ct10), sl10⟩) (c10 : PySem.W.codeIn K cd10 "trimmed_of" = true) (k10 : PySem.W.keepIn K (.ref f10) = true)
    (a11 : PySem.W.nsIn K mainGlobals "textless" = some (some (.ref f11))) (l11 : K.lookup f11 = some ⟨oc11, od11, .func (PySem.W.fnOf "textless" "textless" (defArgs s_textless) (defBody s_textless) (defScope s_textless) .none kV11 dc11 pm11 an11 cd11 ct11), sl11⟩) (c11 : PySem.W.codeIn K cd11 "textless" = true) (k11 : PySem.W.keepIn K (.ref f11) = true)
    (a12 : PySem.W.nsIn K mainGlobals "nexts" = some (some (.ref f12))) (l12 : K.lookup f12 = some ⟨oc12, od12, .func (PySem.W.fnOf "nexts" "nexts" (defArgs s_nexts) (defBody s_nexts) (defScope s_nexts) .none kV12 dc12 pm12 an12 cd12 ct12), sl12⟩) (c12 : PySem.W.codeIn K cd12 "nexts" = true) (k12 : PySem.W.keepIn K (.ref f12) = true)
    (a13 : PySem.W.nsIn K mainGlobals "befores" = some (some (.ref f13))) (l13 : K.lookup f13 = some ⟨oc13, od13, .func (PySem.W.fnOf "befores" "befores" (defArgs s_befores) (defBody s_befores) (defScope s_befores) .none kV13 dc13 pm13 an13 cd13 ct13), sl13⟩) (c13 : PySem.W.codeIn K cd13 "befores" = true) (k13 : PySem.W.keepIn K (.ref f13) = true)
    (a14 : PySem.W.nsIn K mainGlobals "spread" = some (some (.ref f14))) (l14 : K.lookup f14 = some ⟨oc14, od14, .func (PySem.W.fnOf "spread" "spread" (defArgs s_spread) (defBody s_spread) (defScope s_spread) .none kV14 dc14 pm14 an14 cd14 ct14), sl14⟩) (c14 : PySem.W.codeIn K cd14 "spread" = true) (k14 : PySem.W.keepIn K (.ref f14) = true)
    (a15 : PySem.W.nsIn K mainGlobals "renumbered" = some (some (.ref f15))) (l15 : K.lookup f15 = some ⟨oc15, od15, .func (PySem.W.fnOf "renumbered" "renumbered" (defArgs s_renumbered) (defBody s_renumbered) (defScope s_renumbered) .none kV15 dc15 pm15 an15 cd15 ct15), sl15⟩) (c15 : PySem.W.codeIn K cd15 "renumbered" = true) (k15 : PySem.W.keepIn K (.ref f15) = true)
    (a16 : PySem.W.nsIn K mainGlobals "renumbered_step" = some (some (.ref f16))) (l16 : K.lookup f16 = some ⟨oc16, od16, .func (PySem.W.fnOf "renumbered_step" "renumbered_step" (defArgs s_renumbered_step) (defBody s_renumbered_step) (defScope s_renumbered_step) .none kV16 dc16 pm16 an16 cd16 ct16), sl16⟩) (c16 : PySem.W.codeIn K cd16 "renumbered_step" = true) (k16 : PySem.W.keepIn K (.ref f16) = true)
    (a17 : PySem.W.nsIn K mainGlobals "total" = some (some (.ref f17))) (l17 : K.lookup f17 = some ⟨oc17, od17, .func (PySem.W.fnOf "total" "total" (defArgs s_total) (defBody s_total) (defScope s_total) .none kV17 dc17 pm17 an17 cd17 ct17), sl17⟩) (c17 : PySem.W.codeIn K cd17 "total" = true) (k17 : PySem.W.keepIn K (.ref f17) = true)
    (a18 : PySem.W.nsIn K mainGlobals "worths" = some (some (.ref f18))) (l18 : K.lookup f18 = some ⟨oc18, od18, .func (PySem.W.fnOf "worths" "worths" (defArgs s_worths) (defBody s_worths) (defScope s_worths) .none kV18 dc18 pm18 an18 cd18 ct18), sl18⟩) (c18 : PySem.W.codeIn K cd18 "worths" = true) (k18 : PySem.W.keepIn K (.ref f18) = true)
    (a19 : PySem.W.nsIn K mainGlobals "lowest" = some (some (.ref f19))) (l19 : K.lookup f19 = some ⟨oc19, od19, .func (PySem.W.fnOf "lowest" "lowest" (defArgs s_lowest) (defBody s_lowest) (defScope s_lowest) .none kV19 dc19 pm19 an19 cd19 ct19), sl19⟩) (c19 : PySem.W.codeIn K cd19 "lowest" = true) (k19 : PySem.W.keepIn K (.ref f19) = true)
    (a20 : PySem.W.nsIn K mainGlobals "shares" = some (some (.ref f20))) (l20 : K.lookup f20 = some ⟨oc20, od20, .func (PySem.W.fnOf "shares" "shares" (defArgs s_shares) (defBody s_shares) (defScope s_shares) .none kV20 dc20 pm20 an20 cd20 ct20), sl20⟩) (c20 : PySem.W.codeIn K cd20 "shares" = true) (k20 : PySem.W.keepIn K (.ref f20) = true)
    (a21 : PySem.W.nsIn K mainGlobals "equation" = some (some (.ref f21))) (l21 : K.lookup f21 = some ⟨oc21, od21, .func (PySem.W.fnOf "equation" "equation" (defArgs s_equation) (defBody s_equation) (defScope s_equation) .none kV21 dc21 pm21 an21 cd21 ct21), sl21⟩) (c21 : PySem.W.codeIn K cd21 "equation" = true) (k21 : PySem.W.keepIn K (.ref f21) = true)
    (a22 : PySem.W.nsIn K mainGlobals "solved" = some (some (.ref f22))) (l22 : K.lookup f22 = some ⟨oc22, od22, .func (PySem.W.fnOf "solved" "solved" (defArgs s_solved) (defBody s_solved) (defScope s_solved) .none kV22 dc22 pm22 an22 cd22 ct22), sl22⟩) (c22 : PySem.W.codeIn K cd22 "solved" = true) (k22 : PySem.W.keepIn K (.ref f22) = true)
    (a23 : PySem.W.nsIn K mainGlobals "cleared" = some (some (.ref f23))) (l23 : K.lookup f23 = some ⟨oc23, od23, .func (PySem.W.fnOf "cleared" "cleared" (defArgs s_cleared) (defBody s_cleared) (defScope s_cleared) .none kV23 dc23 pm23 an23 cd23 ct23), sl23⟩) (c23 : PySem.W.codeIn K cd23 "cleared" = true) (k23 : PySem.W.keepIn K (.ref f23) = true)
    (a24 : PySem.W.nsIn K mainGlobals "_law_pot" = some (some (.ref f24))) (l24 : K.lookup f24 = some ⟨oc24, od24, .func (PySem.W.fnOf "_law_pot" "_law_pot" (defArgs s_law_pot) (defBody s_law_pot) (defScope s_law_pot) .none kV24 dc24 pm24 an24 cd24 ct24), sl24⟩) (c24 : PySem.W.codeIn K cd24 "_law_pot" = true) (k24 : PySem.W.keepIn K (.ref f24) = true)
    (a25 : PySem.W.nsIn K mainGlobals "_law_draw" = some (some (.ref f25))) (l25 : K.lookup f25 = some ⟨oc25, od25, .func (PySem.W.fnOf "_law_draw" "_law_draw" (defArgs s_law_draw) (defBody s_law_draw) (defScope s_law_draw) .none kV25 dc25 pm25 an25 cd25 ct25), sl25⟩) (c25 : PySem.W.codeIn K cd25 "_law_draw" = true) (k25 : PySem.W.keepIn K (.ref f25) = true)
    (a26 : PySem.W.nsIn K mainGlobals "_law_any" = some (some (.ref f26))) (l26 : K.lookup f26 = some ⟨oc26, od26, .func (PySem.W.fnOf "_law_any" "_law_any" (defArgs s_law_any) (defBody s_law_any) (defScope s_law_any) .none kV26 dc26 pm26 an26 cd26 ct26), sl26⟩) (c26 : PySem.W.codeIn K cd26 "_law_any" = true) (k26 : PySem.W.keepIn K (.ref f26) = true)
    (a27 : PySem.W.nsIn K mainGlobals "_law_power" = some (some (.ref f27))) (l27 : K.lookup f27 = some ⟨oc27, od27, .func (PySem.W.fnOf "_law_power" "_law_power" (defArgs s_law_power) (defBody s_law_power) (defScope s_law_power) .none kV27 dc27 pm27 an27 cd27 ct27), sl27⟩) (c27 : PySem.W.codeIn K cd27 "_law_power" = true) (k27 : PySem.W.keepIn K (.ref f27) = true)
    (a28 : PySem.W.nsIn K mainGlobals "_law_machine" = some (some (.ref f28))) (l28 : K.lookup f28 = some ⟨oc28, od28, .func (PySem.W.fnOf "_law_machine" "_law_machine" (defArgs s_law_machine) (defBody s_law_machine) (defScope s_law_machine) .none kV28 dc28 pm28 an28 cd28 ct28), sl28⟩) (c28 : PySem.W.codeIn K cd28 "_law_machine" = true) (k28 : PySem.W.keepIn K (.ref f28) = true)
    (a29 : PySem.W.nsIn K mainGlobals "_law_menu" = some (some (.ref f29))) (l29 : K.lookup f29 = some ⟨oc29, od29, .func (PySem.W.fnOf "_law_menu" "_law_menu" (defArgs s_law_menu) (defBody s_law_menu) (defScope s_law_menu) .none kV29 dc29 pm29 an29 cd29 ct29), sl29⟩) (c29 : PySem.W.codeIn K cd29 "_law_menu" = true) (k29 : PySem.W.keepIn K (.ref f29) = true)
    (a30 : PySem.W.nsIn K mainGlobals "_law_trim" = some (some (.ref f30))) (l30 : K.lookup f30 = some ⟨oc30, od30, .func (PySem.W.fnOf "_law_trim" "_law_trim" (defArgs s_law_trim) (defBody s_law_trim) (defScope s_law_trim) .none kV30 dc30 pm30 an30 cd30 ct30), sl30⟩) (c30 : PySem.W.codeIn K cd30 "_law_trim" = true) (k30 : PySem.W.keepIn K (.ref f30) = true)
    (a31 : PySem.W.nsIn K mainGlobals "_law_gcd" = some (some (.ref f31))) (l31 : K.lookup f31 = some ⟨oc31, od31, .func (PySem.W.fnOf "_law_gcd" "_law_gcd" (defArgs s_law_gcd) (defBody s_law_gcd) (defScope s_law_gcd) .none kV31 dc31 pm31 an31 cd31 ct31), sl31⟩) (c31 : PySem.W.codeIn K cd31 "_law_gcd" = true) (k31 : PySem.W.keepIn K (.ref f31) = true)
    (a32 : PySem.W.nsIn K mainGlobals "_law_reduced" = some (some (.ref f32))) (l32 : K.lookup f32 = some ⟨oc32, od32, .func (PySem.W.fnOf "_law_reduced" "_law_reduced" (defArgs s_law_reduced) (defBody s_law_reduced) (defScope s_law_reduced) .none kV32 dc32 pm32 an32 cd32 ct32), sl32⟩) (c32 : PySem.W.codeIn K cd32 "_law_reduced" = true) (k32 : PySem.W.keepIn K (.ref f32) = true)
    (a33 : PySem.W.nsIn K mainGlobals "_law_plus" = some (some (.ref f33))) (l33 : K.lookup f33 = some ⟨oc33, od33, .func (PySem.W.fnOf "_law_plus" "_law_plus" (defArgs s_law_plus) (defBody s_law_plus) (defScope s_law_plus) .none kV33 dc33 pm33 an33 cd33 ct33), sl33⟩) (c33 : PySem.W.codeIn K cd33 "_law_plus" = true) (k33 : PySem.W.keepIn K (.ref f33) = true)
    (a34 : PySem.W.nsIn K mainGlobals "_law_lighter" = some (some (.ref f34))) (l34 : K.lookup f34 = some ⟨oc34, od34, .func (PySem.W.fnOf "_law_lighter" "_law_lighter" (defArgs s_law_lighter) (defBody s_law_lighter) (defScope s_law_lighter) .none kV34 dc34 pm34 an34 cd34 ct34), sl34⟩) (c34 : PySem.W.codeIn K cd34 "_law_lighter" = true) (k34 : PySem.W.keepIn K (.ref f34) = true)
    (a35 : PySem.W.nsIn K mainGlobals "_law_worths" = some (some (.ref f35))) (l35 : K.lookup f35 = some ⟨oc35, od35, .func (PySem.W.fnOf "_law_worths" "_law_worths" (defArgs s_law_worths) (defBody s_law_worths) (defScope s_law_worths) .none kV35 dc35 pm35 an35 cd35 ct35), sl35⟩) (c35 : PySem.W.codeIn K cd35 "_law_worths" = true) (k35 : PySem.W.keepIn K (.ref f35) = true)
    (a36 : PySem.W.nsIn K mainGlobals "_law_total" = some (some (.ref f36))) (l36 : K.lookup f36 = some ⟨oc36, od36, .func (PySem.W.fnOf "_law_total" "_law_total" (defArgs s_law_total) (defBody s_law_total) (defScope s_law_total) .none kV36 dc36 pm36 an36 cd36 ct36), sl36⟩) (c36 : PySem.W.codeIn K cd36 "_law_total" = true) (k36 : PySem.W.keepIn K (.ref f36) = true)
    (a37 : PySem.W.nsIn K mainGlobals "_law_moved" = some (some (.ref f37))) (l37 : K.lookup f37 = some ⟨oc37, od37, .func (PySem.W.fnOf "_law_moved" "_law_moved" (defArgs s_law_moved) (defBody s_law_moved) (defScope s_law_moved) .none kV37 dc37 pm37 an37 cd37 ct37), sl37⟩) (c37 : PySem.W.codeIn K cd37 "_law_moved" = true) (k37 : PySem.W.keepIn K (.ref f37) = true)
    (a38 : PySem.W.nsIn K mainGlobals "_law_later" = some (some (.ref f38))) (l38 : K.lookup f38 = some ⟨oc38, od38, .func (PySem.W.fnOf "_law_later" "_law_later" (defArgs s_law_later) (defBody s_law_later) (defScope s_law_later) .none kV38 dc38 pm38 an38 cd38 ct38), sl38⟩) (c38 : PySem.W.codeIn K cd38 "_law_later" = true) (k38 : PySem.W.keepIn K (.ref f38) = true)
    (a39 : PySem.W.nsIn K mainGlobals "_law_under" = some (some (.ref f39))) (l39 : K.lookup f39 = some ⟨oc39, od39, .func (PySem.W.fnOf "_law_under" "_law_under" (defArgs s_law_under) (defBody s_law_under) (defScope s_law_under) .none kV39 dc39 pm39 an39 cd39 ct39), sl39⟩) (c39 : PySem.W.codeIn K cd39 "_law_under" = true) (k39 : PySem.W.keepIn K (.ref f39) = true)
    (a40 : PySem.W.nsIn K mainGlobals "_law_behind" = some (some (.ref f40))) (l40 : K.lookup f40 = some ⟨oc40, od40, .func (PySem.W.fnOf "_law_behind" "_law_behind" (defArgs s_law_behind) (defBody s_law_behind) (defScope s_law_behind) .none kV40 dc40 pm40 an40 cd40 ct40), sl40⟩) (c40 : PySem.W.codeIn K cd40 "_law_behind" = true) (k40 : PySem.W.keepIn K (.ref f40) = true)
    (a41 : PySem.W.nsIn K mainGlobals "_law_twice" = some (some (.ref f41))) (l41 : K.lookup f41 = some ⟨oc41, od41, .func (PySem.W.fnOf "_law_twice" "_law_twice" (defArgs s_law_twice) (defBody s_law_twice) (defScope s_law_twice) .none kV41 dc41 pm41 an41 cd41 ct41), sl41⟩) (c41 : PySem.W.codeIn K cd41 "_law_twice" = true) (k41 : PySem.W.keepIn K (.ref f41) = true)
    (a42 : PySem.W.nsIn K mainGlobals "_law_sum" = some (some (.ref f42))) (l42 : K.lookup f42 = some ⟨oc42, od42, .func (PySem.W.fnOf "_law_sum" "_law_sum" (defArgs s_law_sum) (defBody s_law_sum) (defScope s_law_sum) .none kV42 dc42 pm42 an42 cd42 ct42), sl42⟩) (c42 : PySem.W.codeIn K cd42 "_law_sum" = true) (k42 : PySem.W.keepIn K (.ref f42) = true)
    (a43 : PySem.W.nsIn K mainGlobals "_law_part" = some (some (.ref f43))) (l43 : K.lookup f43 = some ⟨oc43, od43, .func (PySem.W.fnOf "_law_part" "_law_part" (defArgs s_law_part) (defBody s_law_part) (defScope s_law_part) .none kV43 dc43 pm43 an43 cd43 ct43), sl43⟩) (c43 : PySem.W.codeIn K cd43 "_law_part" = true) (k43 : PySem.W.keepIn K (.ref f43) = true)
    (a44 : PySem.W.nsIn K mainGlobals "law" = some (some (.ref f44))) (l44 : K.lookup f44 = some ⟨oc44, od44, .func (PySem.W.fnOf "law" "law" (defArgs s_law) (defBody s_law) (defScope s_law) .none kV44 dc44 pm44 an44 cd44 ct44), sl44⟩) (c44 : PySem.W.codeIn K cd44 "law" = true) (k44 : PySem.W.keepIn K (.ref f44) = true)
    (m1 : PySem.W.nsIn K mainGlobals "MOST_LETTERS" = some (some (.int 8 t1))) (m2 : PySem.W.nsIn K mainGlobals "MOST_STATES" = some (some (.int 30 t2))) (m3 : PySem.W.nsIn K mainGlobals "MOST_BITS" = some (some (.int 60 t3)))
    (p_NoMachine : PySem.W.nsIn K mainGlobals "NoMachine" = some (some (.ref C_NoMachine))) (x_NoMachine : PySem.W.excIn K C_NoMachine [.type "ValueError", .type "Exception", .type "BaseException", .type "object"] "ValueError.__new__" = true) (k_NoMachine : PySem.W.keepIn K (.ref C_NoMachine) = true) (b_NoMachine : PySem.W.subIn K (.ref C_NoMachine) (.type "BaseException") = some true) (t_NoMachine : PySem.W.typeIn K (.ref C_NoMachine) = some (.type "type")) (i_NoMachine : PySem.W.isClsIn K C_NoMachine = true) (s_NoMachine : PySem.W.subIn K (.ref C_NoMachine) (.ref C_NoMachine) = some true)
    (v_gcd : PySem.W.nsIn K mainGlobals "gcd" = some (some (.builtin "math.gcd")))
    (v_zip : PySem.W.nsIn K mainGlobals "zip" = some none)
    (v_abs : PySem.W.nsIn K mainGlobals "abs" = some none)
    (v_dict : PySem.W.nsIn K mainGlobals "dict" = some none)
    (z0 : PySem.W.nsIn K mainGlobals "len" = some none) (z1 : PySem.W.nsIn K mainGlobals "isinstance" = some none) (z2 : PySem.W.nsIn K mainGlobals "int" = some none) (z3 : PySem.W.nsIn K mainGlobals "bool" = some none) (z4 : PySem.W.nsIn K mainGlobals "str" = some none) (z5 : PySem.W.nsIn K mainGlobals "tuple" = some none) (z6 : PySem.W.nsIn K mainGlobals "list" = some none) (z7 : PySem.W.nsIn K mainGlobals "range" = some none) (z8 : PySem.W.nsIn K mainGlobals "all" = some none) (z9 : PySem.W.nsIn K mainGlobals "sum" = some none) (z10 : PySem.W.nsIn K mainGlobals "repr" = some none) (z11 : PySem.W.nsIn K mainGlobals "enumerate" = some none) (z12 : PySem.W.nsIn K mainGlobals "sorted" = some none) (z13 : PySem.W.nsIn K mainGlobals "any" = some none) (z14 : PySem.W.nsIn K mainGlobals "set" = some none) : Facts K mg fa := by
  have e := hfa.symm.trans (PySem.W.mg_of X G a44)
  cases e
  have F := fun_mk (st := s_law) l44 c44 k44
  exact ⟨⟨PySem.W.mg_none_of X G z0, PySem.W.mg_none_of X G z1, PySem.W.mg_none_of X G z2, PySem.W.mg_none_of X G z3, PySem.W.mg_none_of X G z4, PySem.W.mg_none_of X G z5, PySem.W.mg_none_of X G z6, PySem.W.mg_none_of X G z7, PySem.W.mg_none_of X G z8, PySem.W.mg_none_of X G z9, PySem.W.mg_none_of X G z10, PySem.W.mg_none_of X G z11, PySem.W.mg_none_of X G z12, PySem.W.mg_none_of X G z13, PySem.W.mg_none_of X G z14⟩, ⟨_, _, _, PySem.W.mg_of X G m1, PySem.W.mg_of X G m2, PySem.W.mg_of X G m3⟩, ⟨C_NoMachine, ⟨PySem.W.mg_of X G p_NoMachine, x_NoMachine, k_NoMachine, b_NoMachine, t_NoMachine, caught b_NoMachine i_NoMachine t_NoMachine s_NoMachine⟩⟩, ⟨PySem.W.mg_of X G v_gcd, PySem.W.mg_none_of X G v_zip⟩, ⟨PySem.W.mg_none_of X G v_abs⟩, ⟨PySem.W.mg_none_of X G v_dict⟩,
    def_mk X G a0 l0 c0 k0 (fun _ _ _ _ _ _ us hl => match us, hl with | [_], _ => rfl),
    def_mk X G a1 l1 c1 k1 (fun _ _ _ _ _ _ us hl => match us, hl with | [_, _, _], _ => rfl),
    def_mk X G a2 l2 c2 k2 (fun _ _ _ _ _ _ us hl => match us, hl with | [_], _ => rfl),
    def_mk X G a3 l3 c3 k3 (fun _ _ _ _ _ _ us hl => match us, hl with | [_], _ => rfl),
    def_mk X G a4 l4 c4 k4 (fun _ _ _ _ _ _ us hl => match us, hl with | [_], _ => rfl),
    def_mk X G a5 l5 c5 k5 (fun _ _ _ _ _ _ us hl => match us, hl with | [_], _ => rfl),
    def_mk X G a6 l6 c6 k6 (fun _ _ _ _ _ _ us hl => match us, hl with | [_, _, _], _ => rfl),
    def_mk X G a7 l7 c7 k7 (fun _ _ _ _ _ _ us hl => match us, hl with | [_, _], _ => rfl),
    def_mk X G a8 l8 c8 k8 (fun _ _ _ _ _ _ us hl => match us, hl with | [_], _ => rfl),
    def_mk X G a9 l9 c9 k9 (fun _ _ _ _ _ _ us hl => match us, hl with | [_], _ => rfl),
    def_mk X G a10 l10 c10 k10 (fun _ _ _ _ _ _ us hl => match us, hl with | [_], _ => rfl),
    def_mk X G a11 l11 c11 k11 (fun _ _ _ _ _ _ us hl => match us, hl with | [_], _ => rfl),
    def_mk X G a12 l12 c12 k12 (fun _ _ _ _ _ _ us hl => match us, hl with | [_], _ => rfl),
    def_mk X G a13 l13 c13 k13 (fun _ _ _ _ _ _ us hl => match us, hl with | [_], _ => rfl),
    def_mk X G a14 l14 c14 k14 (fun _ _ _ _ _ _ us hl => match us, hl with | [_, _], _ => rfl),
    def_mk X G a15 l15 c15 k15 (fun _ _ _ _ _ _ us hl => match us, hl with | [_, _], _ => rfl),
    def_mk X G a16 l16 c16 k16 (fun _ _ _ _ _ _ us hl => match us, hl with | [_, _], _ => rfl),
    def_mk X G a17 l17 c17 k17 (fun _ _ _ _ _ _ us hl => match us, hl with | [_], _ => rfl),
    def_mk X G a18 l18 c18 k18 (fun _ _ _ _ _ _ us hl => match us, hl with | [_], _ => rfl),
    def_mk X G a19 l19 c19 k19 (fun _ _ _ _ _ _ us hl => match us, hl with | [_, _], _ => rfl),
    def_mk X G a20 l20 c20 k20 (fun _ _ _ _ _ _ us hl => match us, hl with | [_, _], _ => rfl),
    def_mk X G a21 l21 c21 k21 (fun _ _ _ _ _ _ us hl => match us, hl with | [_, _], _ => rfl),
    def_mk X G a22 l22 c22 k22 (fun _ _ _ _ _ _ us hl => match us, hl with | [_], _ => rfl),
    def_mk X G a23 l23 c23 k23 (fun _ _ _ _ _ _ us hl => match us, hl with | [_, _, _, _], _ => rfl),
    def_mk X G a24 l24 c24 k24 (fun _ _ _ _ _ _ us hl => match us, hl with | [_], _ => rfl),
    def_mk X G a25 l25 c25 k25 (fun _ _ _ _ _ _ us hl => match us, hl with | [_, _], _ => rfl),
    def_mk X G a26 l26 c26 k26 (fun _ _ _ _ _ _ us hl => match us, hl with | [_, _], _ => rfl),
    def_mk X G a27 l27 c27 k27 (fun _ _ _ _ _ _ us hl => match us, hl with | [_], _ => rfl),
    def_mk X G a28 l28 c28 k28 (fun _ _ _ _ _ _ us hl => match us, hl with | [_, _, _], _ => rfl),
    def_mk X G a29 l29 c29 k29 (fun _ _ _ _ _ _ us hl => match us, hl with | [_], _ => rfl),
    def_mk X G a30 l30 c30 k30 (fun _ _ _ _ _ _ us hl => match us, hl with | [_], _ => rfl),
    def_mk X G a31 l31 c31 k31 (fun _ _ _ _ _ _ us hl => match us, hl with | [_, _], _ => rfl),
    def_mk X G a32 l32 c32 k32 (fun _ _ _ _ _ _ us hl => match us, hl with | [_, _], _ => rfl),
    def_mk X G a33 l33 c33 k33 (fun _ _ _ _ _ _ us hl => match us, hl with | [_, _], _ => rfl),
    def_mk X G a34 l34 c34 k34 (fun _ _ _ _ _ _ us hl => match us, hl with | [_], _ => rfl),
    def_mk X G a35 l35 c35 k35 (fun _ _ _ _ _ _ us hl => match us, hl with | [_], _ => rfl),
    def_mk X G a36 l36 c36 k36 (fun _ _ _ _ _ _ us hl => match us, hl with | [_], _ => rfl),
    def_mk X G a37 l37 c37 k37 (fun _ _ _ _ _ _ us hl => match us, hl with | [_, _], _ => rfl),
    def_mk X G a38 l38 c38 k38 (fun _ _ _ _ _ _ us hl => match us, hl with | [_], _ => rfl),
    def_mk X G a39 l39 c39 k39 (fun _ _ _ _ _ _ us hl => match us, hl with | [_, _, _], _ => rfl),
    def_mk X G a40 l40 c40 k40 (fun _ _ _ _ _ _ us hl => match us, hl with | [_, _], _ => rfl),
    def_mk X G a41 l41 c41 k41 (fun _ _ _ _ _ _ us hl => match us, hl with | [_, _], _ => rfl),
    def_mk X G a42 l42 c42 k42 (fun _ _ _ _ _ _ us hl => match us, hl with | [_, _], _ => rfl),
    def_mk X G a43 l43 c43 k43 (fun _ _ _ _ _ _ us hl => match us, hl with | [_, _], _ => rfl),
    ⟨_, F, F.binds fun _ _ _ _ _ _ us hl => match us, hl with | [_], _ => rfl⟩⟩
theorem walk {l : PySem.W.OpenLaw} {q : Program} {loose : List Str} {XP : (Str → Option Value) → Heap → Prop} {YP : World → Heap → Prop} {d : DefRec} {K : Params → PySem.W.Frag} (hn : l.most = some 63) (hdf : d.params.defaults = [])
    (hY : ∀ (w : World) (h : Heap), YP w h → (K w.params).In h)
    (F : ∀ (w : World) (mg : Str → Option Value) (fa : Addr) (h : Heap), (K w.params).In h → h.Ns mainGlobals mg → mg d.name = some (.ref fa) → Facts (K w.params) mg fa) :
    PySem.W.WalkO q loose XP YP l.row.toRowW d [] (fun f vs => PySem.call f vs) :=
  L2.walk_of (n := 63) (k := 12) (x := "_law_script") (CX := fun _ => CX0) (sp := fun w => spLaw (K w.params)) hn (by decide) hdf ⟨rfl, by decide, by decide⟩ hY (fun w mg fa h a b c => (F w mg fa h a b c).fn) (fun _ _ a ns hl _ hS => ⟨a, ns, rfl, hS, hl, fun _ => rfl⟩) fun _ _ _ _ _ z => z
end KL
end
open PySem PySem.W PyProof.Rows
set_option maxRecDepth 100000 in
set_option maxHeartbeats 0 in
theorem PySem.Challenge.cw_keptlengths_k14_whole_sums_of_machines_b_holds : PySem.Challenge.rw_keptlengths_k14_whole_sums_of_machines_b.Holds := by
  w_on; o_law; k_head; (case hw => w_witness2)
  k_fill

  refine KL.walk (l := PySem.Challenge.rw_keptlengths_k14_whole_sums_of_machines_b) rfl rfl (fun w h Y => PySem.W.kIn_of Y) ?F
  case F =>
    intro w mg fa h KX G hmg
    refine' KL.facts_mk KX G hmg ?a0 ?l0 ?c0 ?k0 ?a1 ?l1 ?c1 ?k1 ?a2 ?l2 ?c2 ?k2 ?a3 ?l3 ?c3 ?k3 ?a4 ?l4 ?c4 ?k4 ?a5 ?l5 ?c5 ?k5 ?a6 ?l6 ?c6 ?k6 ?a7 ?l7 ?c7 ?k7 ?a8 ?l8 ?c8 ?k8 ?a9 ?l9 ?c9 ?k9 ?a10 ?l10 ?c10 ?k10 ?a11 ?l11 ?c11 ?k11 ?a12 ?l12 ?c12 ?k12 ?a13 ?l13 ?c13 ?k13 ?a14 ?l14 ?c14 ?k14 ?a15 ?l15 ?c15 ?k15 ?a16 ?l16 ?c16 ?k16 ?a17 ?l17 ?c17 ?k17 ?a18 ?l18 ?c18 ?k18 ?a19 ?l19 ?c19 ?k19 ?a20 ?l20 ?c20 ?k20 ?a21 ?l21 ?c21 ?k21 ?a22 ?l22 ?c22 ?k22 ?a23 ?l23 ?c23 ?k23 ?a24 ?l24 ?c24 ?k24 ?a25 ?l25 ?c25 ?k25 ?a26 ?l26 ?c26 ?k26 ?a27 ?l27 ?c27 ?k27 ?a28 ?l28 ?c28 ?k28 ?a29 ?l29 ?c29 ?k29 ?a30 ?l30 ?c30 ?k30 ?a31 ?l31 ?c31 ?k31 ?a32 ?l32 ?c32 ?k32 ?a33 ?l33 ?c33 ?k33 ?a34 ?l34 ?c34 ?k34 ?a35 ?l35 ?c35 ?k35 ?a36 ?l36 ?c36 ?k36 ?a37 ?l37 ?c37 ?k37 ?a38 ?l38 ?c38 ?k38 ?a39 ?l39 ?c39 ?k39 ?a40 ?l40 ?c40 ?k40 ?a41 ?l41 ?c41 ?k41 ?a42 ?l42 ?c42 ?k42 ?a43 ?l43 ?c43 ?k43 ?a44 ?l44 ?c44 ?k44 ?m1 ?m2 ?m3 ?p_NoMachine ?x_NoMachine ?k_NoMachine ?b_NoMachine ?t_NoMachine ?i_NoMachine ?s_NoMachine ?v_gcd ?v_zip ?v_abs ?v_dict ?z0 ?z1 ?z2 ?z3 ?z4 ?z5 ?z6 ?z7 ?z8 ?z9 ?z10 ?z11 ?z12 ?z13 ?z14
    (case a0 => k_is)
    (case l0 => k_is)
    (case c0 => k_is)
    (case k0 => k_is)
    (case a1 => k_is)
    (case l1 => k_is)
    (case c1 => k_is)
    (case k1 => k_is)
    (case a2 => k_is)
    (case l2 => k_is)
    (case c2 => k_is)
    (case k2 => k_is)
    (case a3 => k_is)
    (case l3 => k_is)
    (case c3 => k_is)
    (case k3 => k_is)
    (case a4 => k_is)
    (case l4 => k_is)
    (case c4 => k_is)
    (case k4 => k_is)
    (case a5 => k_is)
    (case l5 => k_is)
    (case c5 => k_is)
    (case k5 => k_is)
    (case a6 => k_is)
    (case l6 => k_is)
    (case c6 => k_is)
    (case k6 => k_is)
    (case a7 => k_is)
    (case l7 => k_is)
    (case c7 => k_is)
    (case k7 => k_is)
    (case a8 => k_is)
    (case l8 => k_is)
    (case c8 => k_is)
    (case k8 => k_is)
    (case a9 => k_is)
    (case l9 => k_is)
    (case c9 => k_is)
    (case k9 => k_is)
    (case a10 => k_is)
    (case l10 => k_is)
    (case c10 => k_is)
    (case k10 => k_is)
    (case a11 => k_is)
    (case l11 => k_is)
    (case c11 => k_is)
    (case k11 => k_is)
    (case a12 => k_is)
    (case l12 => k_is)
    (case c12 => k_is)
    (case k12 => k_is)
    (case a13 => k_is)
    (case l13 => k_is)
    (case c13 => k_is)
    (case k13 => k_is)
    (case a14 => k_is)
    (case l14 => k_is)
    (case c14 => k_is)
    (case k14 => k_is)
    (case a15 => k_is)
    (case l15 => k_is)
    (case c15 => k_is)
    (case k15 => k_is)
    (case a16 => k_is)
    (case l16 => k_is)
    (case c16 => k_is)
    (case k16 => k_is)
    (case a17 => k_is)
    (case l17 => k_is)
    (case c17 => k_is)
    (case k17 => k_is)
    (case a18 => k_is)
    (case l18 => k_is)
    (case c18 => k_is)
    (case k18 => k_is)
    (case a19 => k_is)
    (case l19 => k_is)
    (case c19 => k_is)
    (case k19 => k_is)
    (case a20 => k_is)
    (case l20 => k_is)
    (case c20 => k_is)
    (case k20 => k_is)
    (case a21 => k_is)
    (case l21 => k_is)
    (case c21 => k_is)
    (case k21 => k_is)
    (case a22 => k_is)
    (case l22 => k_is)
    (case c22 => k_is)
    (case k22 => k_is)
    (case a23 => k_is)
    (case l23 => k_is)
    (case c23 => k_is)
    (case k23 => k_is)
    (case a24 => k_is)
    (case l24 => k_is)
    (case c24 => k_is)
    (case k24 => k_is)
    (case a25 => k_is)
    (case l25 => k_is)
    (case c25 => k_is)
    (case k25 => k_is)
    (case a26 => k_is)
    (case l26 => k_is)
    (case c26 => k_is)
    (case k26 => k_is)
    (case a27 => k_is)
    (case l27 => k_is)
    (case c27 => k_is)
    (case k27 => k_is)
    (case a28 => k_is)
    (case l28 => k_is)
    (case c28 => k_is)
    (case k28 => k_is)
    (case a29 => k_is)
    (case l29 => k_is)
    (case c29 => k_is)
    (case k29 => k_is)
    (case a30 => k_is)
    (case l30 => k_is)
    (case c30 => k_is)
    (case k30 => k_is)
    (case a31 => k_is)
    (case l31 => k_is)
    (case c31 => k_is)
    (case k31 => k_is)
    (case a32 => k_is)
    (case l32 => k_is)
    (case c32 => k_is)
    (case k32 => k_is)
    (case a33 => k_is)
    (case l33 => k_is)
    (case c33 => k_is)
    (case k33 => k_is)
    (case a34 => k_is)
    (case l34 => k_is)
    (case c34 => k_is)
    (case k34 => k_is)
    (case a35 => k_is)
    (case l35 => k_is)
    (case c35 => k_is)
    (case k35 => k_is)
    (case a36 => k_is)
    (case l36 => k_is)
    (case c36 => k_is)
    (case k36 => k_is)
    (case a37 => k_is)
    (case l37 => k_is)
    (case c37 => k_is)
    (case k37 => k_is)
    (case a38 => k_is)
    (case l38 => k_is)
    (case c38 => k_is)
    (case k38 => k_is)
    (case a39 => k_is)
    (case l39 => k_is)
    (case c39 => k_is)
    (case k39 => k_is)
    (case a40 => k_is)
    (case l40 => k_is)
    (case c40 => k_is)
    (case k40 => k_is)
    (case a41 => k_is)
    (case l41 => k_is)
    (case c41 => k_is)
    (case k41 => k_is)
    (case a42 => k_is)
    (case l42 => k_is)
    (case c42 => k_is)
    (case k42 => k_is)
    (case a43 => k_is)
    (case l43 => k_is)
    (case c43 => k_is)
    (case k43 => k_is)
    (case a44 => k_is)
    (case l44 => k_is)
    (case c44 => k_is)
    (case k44 => k_is)
    (case m1 => k_is)
    (case m2 => k_is)
    (case m3 => k_is)
    (case p_NoMachine => k_is)
    (case x_NoMachine => k_exc)
    (case k_NoMachine => k_is)
    (case b_NoMachine => k_is)
    (case t_NoMachine => k_is)
    (case i_NoMachine => k_is)
    (case s_NoMachine => first | rfl | k_is)
    (case v_gcd => k_is)
    (case v_zip => k_is)
    (case v_abs => k_is)
    (case v_dict => k_is)
    (case z0 => k_is)
    (case z1 => k_is)
    (case z2 => k_is)
    (case z3 => k_is)
    (case z4 => k_is)
    (case z5 => k_is)
    (case z6 => k_is)
    (case z7 => k_is)
    (case z8 => k_is)
    (case z9 => k_is)
    (case z10 => k_is)
    (case z11 => k_is)
    (case z12 => k_is)
    (case z13 => k_is)
    (case z14 => k_is)
