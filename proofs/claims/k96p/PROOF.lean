import PyProof.Rows.All
import Wide.All
import OpenK.AllK
import Wide.FinOn
import HandS.ForMost
import HandS.Walk
import HandS.Exc
import HandS.TryOnly
import HandS.ExcOwn
import HandS.WordsExc
import HandS.ExcField
import HandS.ExcInit
import HandS.TupAny
import HandS.TupLe
import HandS.Deep
import HandS.Wide
import HandS.IsInst
import HandS.Sort
import HandS.SortInts
import KE.GoesEnum
import HandS.Zip
import HandS.More
import HandS.Property
import HandS.Defaults
import HandS.MakeKwOnly
import PyProof.WalkInts
import HandS.ExcIs
import KE.KExcIs
import HandS.EndBits
import PySem.Challenge.RW_fullhands_k96_errors_built
import KE.OsGo
import KE.KEqSeq
set_option Elab.async false
set_option linter.all false
set_option maxRecDepth 100000
namespace VL
open PySem PySem.Spec L2

/-! ### the data -/
inductive D where
  | non | bl (b : Bool) | int (i : Int) | str (x : Str)
  | lst (xs : List D) | tup (xs : List D)
  | dic (kvs : List (Key × D))
  | ins (c : Nat) (fs : List (Str × D))
  | scr (ns : List Int)
  | exc (c : Nat) (fs : List (Str × D))

mutual
def noMut : D → Bool
  | .tup xs => noMutL xs
  | .lst _ => false
  | .dic _ => false
  | .ins _ _ => false
  | .scr _ => false
  | .exc _ _ => false
  | .non => true
  | .bl _ => true
  | .int _ => true
  | .str _ => true
def noMutL : List D → Bool
  | [] => true
  | x :: xs => noMut x && noMutL xs
end
/-- a list of data without lists -/
def isFlat : D → Bool
  | .lst xs => noMutL xs
  | _ => false

theorem noMutL_mem : ∀ {ds : List D}, noMutL ds = true → ∀ d ∈ ds, noMut d = true
  | [], _, d, h => by cases h
  | x :: xs, h, d, hd => by
    rw [noMutL, Bool.and_eq_true] at h
    rcases List.mem_cons.mp hd with rfl | hd
    · exact h.1
    · exact noMutL_mem h.2 d hd
theorem noMutL_of : ∀ {ds : List D}, (∀ d ∈ ds, noMut d = true) → noMutL ds = true
  | [], _ => by rw [noMutL]
  | x :: xs, h => by
    rw [noMutL, h x List.mem_cons_self, noMutL_of fun d hd => h d (List.mem_cons_of_mem _ hd)]
    rfl

abbrev ASet := Addr → Prop
/-- what stands for the classes: the class at each number -/
abbrev ClsT := Nat → Option Addr

/-! ### what stands for a datum. F: the places of its lists, dicts, instances -/
mutual
inductive Rep (K : PySem.W.Frag) (Cl : ClsT) (H : Hp) (F : ASet) : V → D → Prop
  | non : Rep K Cl H F .non .non
  | bl (b : Bool) : Rep K Cl H F (.bl b) (.bl b)
  | int (i : Int) : Rep K Cl H F (.int i) (.int i)
  | str (x : Str) : Rep K Cl H F (.str x) (.str x)
  | tup {a : Addr} {xs : List V} {ds : List D} : SqT K H a xs → Reps K Cl H F xs ds → Rep K Cl H F (.ref a) (.tup ds)
  | lst {a : Addr} {xs : List V} {ds : List D} : H a = some (.lst xs) → F a → Reps K Cl H F xs ds → Rep K Cl H F (.ref a) (.lst ds)
  | dic {a : Addr} {xs : List (Key × V)} {ds : List (Key × D)} : H a = some (.dK xs) → F a → RepK K Cl H F xs ds → Rep K Cl H F (.ref a) (.dic ds)
  | ins {a C dx : Addr} {c : Nat} {xs : List (Str × V)} {ds : List (Str × D)} : H a = some (.ins C dx xs) → F a → Cl c = some C → RepF K Cl H F xs ds → Rep K Cl H F (.ref a) (.ins c ds)
  | scr {a : Addr} {ns : List Int} : SqL K H a (ns.map V.int) → F a → Rep K Cl H F (.ref a) (.scr ns)
  | scrK {a : Addr} {ns : List Int} : (∀ H', SqL K H' a (ns.map V.int)) → Rep K Cl H F (.ref a) (.scr ns)
  | exc0 {a C : Addr} {c : Nat} : H a = some (exo a C none) → F a → Cl c = some C → Rep K Cl H F (.ref a) (.exc c [])
  | exc {a C dx : Addr} {c : Nat} {xs : List (Str × V)} {ds : List (Str × D)} : H a = some (exo a C (some dx)) → H dx = some (exd dx xs) → F a → F dx → Cl c = some C → RepF K Cl H F xs ds → Rep K Cl H F (.ref a) (.exc c ds)
inductive Reps (K : PySem.W.Frag) (Cl : ClsT) (H : Hp) (F : ASet) : List V → List D → Prop
  | nil : Reps K Cl H F [] []
  | cons {v : V} {d : D} {vs : List V} {ds : List D} : Rep K Cl H F v d → Reps K Cl H F vs ds → Reps K Cl H F (v :: vs) (d :: ds)
inductive RepK (K : PySem.W.Frag) (Cl : ClsT) (H : Hp) (F : ASet) : List (Key × V) → List (Key × D) → Prop
  | nil : RepK K Cl H F [] []
  | cons {k : Key} {v : V} {d : D} {vs : List (Key × V)} {ds : List (Key × D)} : Rep K Cl H F v d → RepK K Cl H F vs ds → RepK K Cl H F ((k, v) :: vs) ((k, d) :: ds)
inductive RepF (K : PySem.W.Frag) (Cl : ClsT) (H : Hp) (F : ASet) : List (Str × V) → List (Str × D) → Prop
  | nil : RepF K Cl H F [] []
  | cons {k : Str} {v : V} {d : D} {vs : List (Str × V)} {ds : List (Str × D)} : Rep K Cl H F v d → RepF K Cl H F vs ds → RepF K Cl H F ((k, v) :: vs) ((k, d) :: ds)
end

/-- what H says at F, of tuples and of what is locked stays -/
structure Stay (F : ASet) (H H' : Hp) : Prop where
  at_ : ∀ a o, F a → H a = some o → H' a = some o
  tup : ∀ a xs, H a = some (.tup xs) → H' a = some (.tup xs)
  frz : ∀ a o u, H a = some (.frz o u) → H' a = some (.frz o u)
theorem Stay.of_same {F : ASet} {H H' : Hp} (s : Same H H') : Stay F H H' := ⟨fun a o _ e => s a o e, fun a xs e => s a _ e, fun a o u e => s a _ e⟩
theorem Stay.upd {F : ASet} {H : Hp} {a : Addr} {o u : HO} (h : H a = some u) (n : ¬ F a) (nt : ∀ xs, u ≠ .tup xs) (nf : ∀ p q, u ≠ .frz p q) : Stay F H (upd H a o) := by
  refine ⟨fun b p f e => ?_, fun b xs e => ?_, fun b p q e => ?_⟩
  · rw [upd_ne (fun z => n (by rw [← z]; exact f))]; exact e
  · rw [upd_ne (fun z => by subst z; rw [h] at e; cases e; exact nt _ rfl)]; exact e
  · rw [upd_ne (fun z => by subst z; rw [h] at e; cases e; exact nf _ _ rfl)]; exact e
theorem Stay.tupS {K : PySem.W.Frag} {F : ASet} {H H' : Hp} {a : Addr} {xs : List V} (s : Stay F H H') (h : SqT K H a xs) : SqT K H' a xs := by
  rcases h with (h | ⟨o, h⟩) | h
  · exact .inl (.inl (s.tup _ _ h))
  · exact .inl (.inr ⟨o, s.frz _ _ _ h⟩)
  · exact .inr h

section
variable {K : PySem.W.Frag} {Cl : ClsT} {H H' : Hp} {F F' : ASet}
mutual
theorem Rep.go (s : Stay F H H') (m : ∀ a, F a → F' a) : ∀ {v : V} {d : D}, Rep K Cl H F v d → Rep K Cl H' F' v d
  | _, _, .non => .non
  | _, _, .bl b => .bl b
  | _, _, .int i => .int i
  | _, _, .str x => .str x
  | _, _, .tup h r => .tup (s.tupS h) (Reps.go s m r)
  | _, _, .lst h f r => .lst (s.at_ _ _ f h) (m _ f) (Reps.go s m r)
  | _, _, .dic h f r => .dic (s.at_ _ _ f h) (m _ f) (RepK.go s m r)
  | _, _, .ins h f c r => .ins (s.at_ _ _ f h) (m _ f) c (RepF.go s m r)
  | _, _, .scr h f => .scr (by
      rcases h with (h | ⟨o, h⟩) | h
      · exact .inl (.inl (s.at_ _ _ f h))
      · exact .inl (.inr ⟨o, s.frz _ _ _ h⟩)
      · exact .inr h) (m _ f)
  | _, _, .scrK h => .scrK h
  | _, _, .exc0 h f c => .exc0 (s.at_ _ _ f h) (m _ f) c
  | _, _, .exc h hd f fd c r => .exc (s.at_ _ _ f h) (s.at_ _ _ fd hd) (m _ f) (m _ fd) c (RepF.go s m r)
theorem Reps.go (s : Stay F H H') (m : ∀ a, F a → F' a) : ∀ {v : List V} {d : List D}, Reps K Cl H F v d → Reps K Cl H' F' v d
  | _, _, .nil => .nil
  | _, _, .cons a b => .cons (Rep.go s m a) (Reps.go s m b)
theorem RepK.go (s : Stay F H H') (m : ∀ a, F a → F' a) : ∀ {v : List (Key × V)} {d : List (Key × D)}, RepK K Cl H F v d → RepK K Cl H' F' v d
  | _, _, .nil => .nil
  | _, _, .cons a b => .cons (Rep.go s m a) (RepK.go s m b)
theorem RepF.go (s : Stay F H H') (m : ∀ a, F a → F' a) : ∀ {v : List (Str × V)} {d : List (Str × D)}, RepF K Cl H F v d → RepF K Cl H' F' v d
  | _, _, .nil => .nil
  | _, _, .cons a b => .cons (Rep.go s m a) (RepF.go s m b)
end
theorem Rep.same (r : Rep K Cl H F v d) (s : Same H H') : Rep K Cl H' F v d := r.go (.of_same s) fun _ h => h
theorem Reps.same (r : Reps K Cl H F v d) (s : Same H H') : Reps K Cl H' F v d := r.go (.of_same s) fun _ h => h
theorem Rep.mono (r : Rep K Cl H F v d) (m : ∀ a, F a → F' a) : Rep K Cl H F' v d := r.go (.of_same (Same.refl _)) m
theorem Reps.mono (r : Reps K Cl H F v d) (m : ∀ a, F a → F' a) : Reps K Cl H F' v d := r.go (.of_same (Same.refl _)) m

mutual
/-- a datum without lists leans on no place -/
theorem Rep.pure : ∀ {v : V} {d : D}, Rep K Cl H F v d → noMut d = true → Rep K Cl H F' v d
  | _, _, .non, _ => .non
  | _, _, .bl b, _ => .bl b
  | _, _, .int i, _ => .int i
  | _, _, .str x, _ => .str x
  | _, _, .tup h r, n => .tup h (Reps.pure r (by rw [noMut] at n; exact n))
  | _, _, .lst _ _ _, n => by rw [noMut] at n; cases n
  | _, _, .dic _ _ _, n => by rw [noMut] at n; cases n
  | _, _, .ins _ _ _ _, n => by rw [noMut] at n; cases n
  | _, _, .scr _ _, n => by rw [noMut] at n; cases n
  | _, _, .scrK _, n => by rw [noMut] at n; cases n
  | _, _, .exc0 _ _ _, n => by rw [noMut] at n; cases n
  | _, _, .exc _ _ _ _ _ _, n => by rw [noMut] at n; cases n
theorem Reps.pure : ∀ {v : List V} {d : List D}, Reps K Cl H F v d → noMutL d = true → Reps K Cl H F' v d
  | _, _, .nil, _ => .nil
  | _, _, .cons a b, n => by
    rw [noMutL, Bool.and_eq_true] at n
    exact .cons (Rep.pure a n.1) (Reps.pure b n.2)
end
theorem Reps.length : ∀ {v : List V} {d : List D}, Reps K Cl H F v d → v.length = d.length
  | _, _, .nil => rfl
  | _, _, .cons _ b => by rw [List.length_cons, List.length_cons, b.length]
theorem Reps.get : ∀ {vs : List V} {ds : List D} {i : Nat} {d : D}, Reps K Cl H F vs ds → ds[i]? = some d → ∃ v, vs[i]? = some v ∧ Rep K Cl H F v d
  | _, _, _, _, .nil, e => by simp at e
  | _, _, 0, _, .cons a _, e => by simp at e; subst e; exact ⟨_, rfl, a⟩
  | _, _, i + 1, d, .cons _ b, e => by
    obtain ⟨v, h1, h2⟩ := Reps.get (i := i) (d := d) b (by simpa using e)
    exact ⟨v, by simpa using h1, h2⟩
theorem Reps.get' : ∀ {vs : List V} {ds : List D} {i : Nat} {v : V}, Reps K Cl H F vs ds → vs[i]? = some v → ∃ d, ds[i]? = some d ∧ Rep K Cl H F v d
  | _, _, _, _, .nil, e => by simp at e
  | _, _, 0, _, .cons a _, e => by simp at e; subst e; exact ⟨_, rfl, a⟩
  | _, _, i + 1, v, .cons _ b, e => by
    obtain ⟨d, h1, h2⟩ := Reps.get' (i := i) (v := v) b (by simpa using e)
    exact ⟨d, by simpa using h1, h2⟩
theorem Reps.append : ∀ {vs ws : List V} {ds es : List D}, Reps K Cl H F vs ds → Reps K Cl H F ws es → Reps K Cl H F (vs ++ ws) (ds ++ es)
  | _, _, _, _, .nil, s => s
  | _, _, _, _, .cons a b, s => .cons a (Reps.append b s)
theorem Reps.drop : ∀ {vs : List V} {ds : List D} (n : Nat), Reps K Cl H F vs ds → Reps K Cl H F (vs.drop n) (ds.drop n)
  | _, _, 0, r => r
  | _, _, _ + 1, .nil => .nil
  | _, _, n + 1, .cons _ t => Reps.drop n t
theorem Reps.take : ∀ {vs : List V} {ds : List D} (n : Nat), Reps K Cl H F vs ds → Reps K Cl H F (vs.take n) (ds.take n)
  | _, _, 0, _ => .nil
  | _, _, _ + 1, .nil => .nil
  | _, _, n + 1, .cons r t => .cons r (Reps.take n t)
theorem Reps.set {v : V} {d : D} (r : Rep K Cl H F v d) : ∀ {vs : List V} {ds : List D} (i : Nat), Reps K Cl H F vs ds → Reps K Cl H F (vs.set i v) (ds.set i d)
  | _, _, _, .nil => .nil
  | _, _, 0, .cons _ t => .cons r t
  | _, _, i + 1, .cons q t => .cons q (Reps.set r i t)
theorem Reps.reverse {vs : List V} {ds : List D} (h : Reps K Cl H F vs ds) : Reps K Cl H F vs.reverse ds.reverse := by
  induction h using Reps.rec (motive_1 := fun _ _ _ => True) (motive_3 := fun _ _ _ => True) (motive_4 := fun _ _ _ => True) <;> try trivial
  · exact .nil
  · rename_i _ b _ ih
    rw [List.reverse_cons, List.reverse_cons]
    rename_i a
    first
      | exact ih.append (.cons a .nil)
      | exact ih.append (.cons (by assumption) .nil)
theorem Rep.int_of {v : V} {i : Int} (h : Rep K Cl H F v (.int i)) : v = .int i := by cases h; rfl
theorem Rep.bl_of {v : V} {i : Bool} (h : Rep K Cl H F v (.bl i)) : v = .bl i := by cases h; rfl
theorem Rep.str_of {v : V} {i : Str} (h : Rep K Cl H F v (.str i)) : v = .str i := by cases h; rfl
theorem Rep.non_of {v : V} (h : Rep K Cl H F v .non) : v = .non := by cases h; rfl
theorem Rep.lst_of {v : V} {ds : List D} (h : Rep K Cl H F v (.lst ds)) : ∃ a xs, v = .ref a ∧ H a = some (.lst xs) ∧ F a ∧ Reps K Cl H F xs ds := by cases h; exact ⟨_, _, rfl, by assumption, by assumption, by assumption⟩
theorem Rep.tup_of {v : V} {ds : List D} (h : Rep K Cl H F v (.tup ds)) : ∃ a xs, v = .ref a ∧ SqT K H a xs ∧ Reps K Cl H F xs ds := by cases h; exact ⟨_, _, rfl, by assumption, by assumption⟩
end

/-! ### results, levels, slots -/
structure Rv where
  d : D
  l : Nat
  al : List Nat
abbrev Slot := Option (Nat × D)
abbrev Ev := List Slot
abbrev VE := Ev → Option Rv

/-- v is a thing of its own at a: its children lean on F', not on a -/
inductive Own (K : PySem.W.Frag) (Cl : ClsT) (H : Hp) (F' : ASet) : Addr → D → Prop
  | lst {a : Addr} {xs : List V} {ds : List D} : H a = some (.lst xs) → Reps K Cl H F' xs ds → Own K Cl H F' a (.lst ds)
  | dic {a : Addr} {xs : List (Key × V)} {ds : List (Key × D)} : H a = some (.dK xs) → RepK K Cl H F' xs ds → Own K Cl H F' a (.dic ds)
  | ins {a C dx : Addr} {c : Nat} {xs : List (Str × V)} {ds : List (Str × D)} : H a = some (.ins C dx xs) → Cl c = some C → RepF K Cl H F' xs ds → Own K Cl H F' a (.ins c ds)
theorem Own.rep {K : PySem.W.Frag} {Cl : ClsT} {H : Hp} {F F' : ASet} {a : Addr} {d : D} (h : Own K Cl H F' a d) (fa : F a) (m : ∀ b, F' b → F b) : Rep K Cl H F (.ref a) d := by
  cases h with
  | lst h r => exact .lst h fa (r.mono m)
  | dic h r => exact .dic h fa (r.go (.of_same (Same.refl _)) m)
  | ins h c r => exact .ins h fa c (r.go (.of_same (Same.refl _)) m)
theorem Own.go {K : PySem.W.Frag} {Cl : ClsT} {H H' : Hp} {F : ASet} {a : Addr} {d : D} (h : Own K Cl H F a d) (s : Stay F H H') (ha : ∀ o, H a = some o → H' a = some o) : Own K Cl H' F a d := by
  cases h with
  | lst h r => exact .lst (ha _ h) (r.go s fun _ h => h)
  | dic h r => exact .dic (ha _ h) (r.go s fun _ h => h)
  | ins h c r => exact .ins (ha _ h) c (r.go s fun _ h => h)
theorem Own.there {K : PySem.W.Frag} {Cl : ClsT} {H : Hp} {F : ASet} {a : Addr} {d : D} (h : Own K Cl H F a d) : ∃ o, H a = some o ∧ (∀ xs, o ≠ .tup xs) ∧ (∀ p q, o ≠ .frz p q) := by
  cases h with
  | lst h r => exact ⟨_, h, (fun _ z => by cases z), fun _ _ z => by cases z⟩
  | dic h r => exact ⟨_, h, (fun _ z => by cases z), fun _ _ z => by cases z⟩
  | ins h c r => exact ⟨_, h, (fun _ z => by cases z), fun _ _ z => by cases z⟩
end VL

namespace VL
open PySem PySem.Spec L2

inductive Grid (K : PySem.W.Frag) (Cl : ClsT) (H : Hp) : List Addr → List V → List D → Prop
  | nil : Grid K Cl H [] [] []
  | pure {as : List Addr} {v : V} {d : D} {vs : List V} {ds : List D} : Rep K Cl H (fun _ => False) v d → noMut d = true → Grid K Cl H as vs ds → Grid K Cl H as (v :: vs) (d :: ds)
  | own {as : List Addr} {b : Addr} {ys : List V} {es : List D} {vs : List V} {ds : List D} : H b = some (.lst ys) → Reps K Cl H (fun _ => False) ys es → noMutL es = true → b ∉ as → Grid K Cl H as vs ds → Grid K Cl H (b :: as) (.ref b :: vs) (.lst es :: ds)

inductive Lv (K : PySem.W.Frag) (Cl : ClsT) (H : Hp) (F : ASet) : Nat → V → D → List Addr → Prop
  | zero {v : V} {d : D} : Lv K Cl H F 0 v d []
  | pure {l : Nat} {v : V} {d : D} : noMut d = true → Lv K Cl H F l v d []
  | one {a : Addr} {d : D} {F' : ASet} : Own K Cl H F' a d → ¬ F' a → (∀ b, F' b → F b) → F a → Lv K Cl H F 1 (.ref a) d [a]
  | two {a : Addr} {as : List Addr} {xs : List V} {ds : List D} : H a = some (.lst xs) → Grid K Cl H as xs ds → a ∉ as → F a → (∀ b ∈ as, F b) → Lv K Cl H F 2 (.ref a) (.lst ds) (a :: as)

section
variable {K : PySem.W.Frag} {Cl : ClsT} {H H' : Hp} {F F' : ASet}
theorem Grid.go (s : Stay F H H') : ∀ {as : List Addr} {vs : List V} {ds : List D}, Grid K Cl H as vs ds → (∀ b ∈ as, F b) → Grid K Cl H' as vs ds
  | _, _, _, .nil, _ => .nil
  | _, _, _, .pure r n g, m => .pure (r.go ⟨fun _ _ h => h.elim, s.tup, s.frz⟩ fun _ h => h) n (g.go s m)
  | _, _, _, .own h r n k g, m => .own (s.at_ _ _ (m _ List.mem_cons_self) h) (r.go ⟨fun _ _ h => h.elim, s.tup, s.frz⟩ fun _ h => h) n k (g.go s fun b hb => m b (List.mem_cons_of_mem _ hb))
theorem Grid.reps : ∀ {as : List Addr} {vs : List V} {ds : List D}, Grid K Cl H as vs ds → Reps K Cl H (fun b => b ∈ as) vs ds
  | _, _, _, .nil => .nil
  | _, _, _, .pure r n g => .cons (r.pure n) g.reps
  | _, _, _, .own h r n k g => .cons (.lst h List.mem_cons_self (r.pure n)) (g.reps.mono fun b hb => List.mem_cons_of_mem _ hb)
theorem Grid.there : ∀ {as : List Addr} {vs : List V} {ds : List D}, Grid K Cl H as vs ds → ∀ b ∈ as, ∃ ys, H b = some (.lst ys)
  | _, _, _, .nil, b, hb => by cases hb
  | _, _, _, .pure r n g, b, hb => g.there b hb
  | _, _, _, .own h r n k g, b, hb => by
    rcases List.mem_cons.mp hb with rfl | hb
    · exact ⟨_, h⟩
    · exact g.there b hb
theorem Lv.go {l : Nat} {v : V} {d : D} {ow : List Addr} (x : Lv K Cl H F l v d ow) (s : Stay F H H') (m : ∀ a, F a → F' a) : Lv K Cl H' F' l v d ow := by
  cases x with
  | zero => exact .zero
  | pure n => exact .pure n
  | one o n k f => exact .one (o.go ⟨fun b _ h => s.at_ b _ (k b h), s.tup, s.frz⟩ fun _ e => s.at_ _ _ f e) n (fun b hb => m b (k b hb)) (m _ f)
  | two h g n f k => exact .two (s.at_ _ _ f h) (g.go s k) n (m _ f) (fun b hb => m b (k b hb))
theorem Lv.same {l : Nat} {v : V} {d : D} {ow : List Addr} (x : Lv K Cl H F l v d ow) (s : Same H H') : Lv K Cl H' F l v d ow := x.go (.of_same s) fun _ h => h
/-- the top alone -/
theorem Lv.top {l : Nat} {v : V} {d : D} {ow : List Addr} (x : Lv K Cl H F l v d ow) (hl : 1 ≤ l) (n : noMut d = false) : ∃ a F', v = .ref a ∧ Own K Cl H F' a d ∧ ¬ F' a ∧ (∀ b, F' b → F b) ∧ F a ∧ a ∈ ow := by
  cases x with
  | zero => exact absurd hl (by decide)
  | pure n' => rw [n] at n'; cases n'
  | one o n k f => exact ⟨_, _, rfl, o, n, k, f, List.mem_cons_self⟩
  | two h g n' f k => exact ⟨_, _, rfl, .lst h g.reps, n', fun b hb => k b hb, f, List.mem_cons_self⟩
theorem Lv.kind {l : Nat} {v : V} {d : D} {ow : List Addr} (x : Lv K Cl H F l v d ow) : ∀ b ∈ ow, ∃ o, H b = some o ∧ (∀ xs, o ≠ .tup xs) ∧ ∀ p q, o ≠ .frz p q := by
  cases x with
  | zero => intro b hb; cases hb
  | pure n => intro b hb; cases hb
  | one o n k f => intro b hb; rw [List.mem_singleton] at hb; subst hb; exact o.there
  | two h g n f k =>
    intro b hb
    rcases List.mem_cons.mp hb with rfl | hb
    · exact ⟨_, h, (fun _ z => by cases z), fun _ _ z => by cases z⟩
    · obtain ⟨ys, e⟩ := g.there b hb
      exact ⟨_, e, (fun _ z => by cases z), fun _ _ z => by cases z⟩
theorem Lv.sub {l : Nat} {v : V} {d : D} {ow : List Addr} (x : Lv K Cl H F l v d ow) : ∀ b ∈ ow, F b := by
  cases x with
  | zero => intro b hb; cases hb
  | pure n => intro b hb; cases hb
  | one o n k f => intro b hb; rw [List.mem_singleton] at hb; subst hb; exact f
  | two h g n f k =>
    intro b hb
    rcases List.mem_cons.mp hb with rfl | hb
    · exact f
    · exact k b hb
end

/-- a value behind an expression that began at Hs -/
def ValOk (K : PySem.W.Frag) (Cl : ClsT) (Hs H : Hp) (Fs : Nat → ASet) (v : V) (r : Rv) : Prop :=
  ∃ (F : ASet) (ow : List Addr), Rep K Cl H F v r.d ∧ (∀ a, F a → H a ≠ none) ∧ (∀ a, F a → Hs a = none ∨ ∃ j ∈ r.al, Fs j a) ∧ Lv K Cl H F r.l v r.d ow ∧ ∀ a ∈ ow, Hs a = none
def RetOk (K : PySem.W.Frag) (Cl : ClsT) (H0 H : Hp) (G : ASet) (v : V) (d : D) (l : Nat) : Prop :=
  ∃ (F : ASet) (ow : List Addr), Rep K Cl H F v d ∧ (∀ a, F a → H a ≠ none) ∧ (∀ a, F a → H0 a = none ∨ G a) ∧ Lv K Cl H F l v d ow ∧ ∀ a ∈ ow, H0 a = none
/-- the slots -/
structure StOk (K : PySem.W.Frag) (Cl : ClsT) (H0 : Hp) (G : ASet) (σ : L2.St) (H : Hp) (env : Ev) (Fs : Nat → ASet) (ow : Nat → List Addr) : Prop where
  same : Same H0 H
  len : env.length = σ.length
  val : ∀ i fl d, env[i]? = some (some (fl, d)) → ∃ v, σ[i]? = some (some v) ∧ Rep K Cl H (Fs i) v d ∧ Lv K Cl H (Fs i) fl v d (ow i)
  trk : ∀ i a, Fs i a → H a ≠ none
  base : ∀ i a, Fs i a → H0 a = none ∨ G a
  own : ∀ i, ∀ a ∈ ow i, Fs i a ∧ H0 a = none ∧ ∀ j, j ≠ i → ¬ Fs j a
  kind : ∀ i, ∀ a ∈ ow i, ∃ o, H a = some o ∧ (∀ xs, o ≠ .tup xs) ∧ ∀ p q, o ≠ .frz p q
  fin : ∀ i a, Fs i a → i < env.length
def Ow (ow : Nat → List Addr) (a : Addr) : Prop := ∃ i, a ∈ ow i
/-- from one state to a later one -/
structure Stp (H : Hp) (ow : Nat → List Addr) (H' : Hp) (ow' : Nat → List Addr) : Prop where
  keep : ∀ a o, H a = some o → ¬ Ow ow a → H' a = some o
  own : ∀ a, Ow ow' a → Ow ow a ∨ H a = none
theorem Stp.refl (H : Hp) (ow : Nat → List Addr) : Stp H ow H ow := ⟨fun _ _ e _ => e, fun _ h => .inl h⟩
theorem Stp.trans {H H1 H2 : Hp} {w w1 w2 : Nat → List Addr} (a : Stp H w H1 w1) (b : Stp H1 w1 H2 w2) : Stp H w H2 w2 := by
  have nw : ∀ c o, H c = some o → ¬ Ow w c → ¬ Ow w1 c := fun c o e n h => by
    rcases a.own c h with h | h
    · exact n h
    · rw [h] at e; cases e
  refine ⟨fun c o e n => b.keep c o (a.keep c o e n) (nw c o e n), fun c h => ?_⟩
  rcases b.own c h with h | h
  · exact a.own c h
  · by_cases q : Ow w c
    · exact .inl q
    · cases e : H c with
      | none => exact .inr rfl
      | some o => rw [a.keep c o e q] at h; cases h
theorem Stp.of_same {H H' : Hp} {w w' : Nat → List Addr} (s : Same H H') (h : ∀ a, Ow w' a → Ow w a ∨ H a = none) : Stp H w H' w' := ⟨fun a o e _ => s a o e, h⟩
theorem same_none {H H' : Hp} (s : Same H H') {a : Addr} (h : H' a = none) : H a = none := s.free h

section
variable {K : PySem.W.Frag} {Cl : ClsT} {H0 Hs H H' : Hp} {G : ASet} {σ : L2.St} {env : Ev} {Fs : Nat → ASet} {ow : Nat → List Addr} {v : V} {r : Rv}
theorem ValOk.same (x : ValOk K Cl Hs H Fs v r) (s : Same H H') : ValOk K Cl Hs H' Fs v r := by
  obtain ⟨F, w, h1, h2, h3, h4, h5⟩ := x
  refine ⟨F, w, h1.same s, fun a f => ?_, h3, h4.same s, h5⟩
  have := h2 a f
  cases e : H a with
  | none => exact absurd e this
  | some o => rw [s a o e]; intro z; cases z
/-- an earlier start -/
theorem ValOk.from {H1 : Hp} (x : ValOk K Cl H1 H Fs v r) (s : Same Hs H1) : ValOk K Cl Hs H Fs v r := by
  obtain ⟨F, w, h1, h2, h3, h4, h5⟩ := x
  exact ⟨F, w, h1, h2, fun a f => (h3 a f).elim (fun h => .inl (s.free h)) .inr, h4, fun a ha => s.free (h5 a ha)⟩
theorem StOk.go (x : StOk K Cl H0 G σ H env Fs ow) (s : Same H H') : StOk K Cl H0 G σ H' env Fs ow := by
  refine ⟨x.same.trans s, x.len, fun i fl d e => ?_, fun i a f z => ?_, x.base, x.own, fun i a h => ?_, x.fin⟩
  · obtain ⟨v, h1, h2, h3⟩ := x.val i fl d e
    exact ⟨v, h1, h2.same s, h3.same s⟩
  · exact x.trk i a f (s.free z)
  · obtain ⟨o, e, k⟩ := x.kind i a h
    exact ⟨o, s a o e, k⟩
theorem ValOk.pureV {d : D} {l : Nat} (h : Rep K Cl H (fun _ => False) v d) (n : noMut d = true) : ValOk K Cl Hs H Fs v ⟨d, l, []⟩ :=
  ⟨fun _ => False, [], h, fun _ f => f.elim, fun _ f => f.elim, .pure n, fun _ h => by cases h⟩
theorem ValOk.rep (x : ValOk K Cl Hs H Fs v r) : ∃ F, Rep K Cl H F v r.d := let ⟨F, _, h, _⟩ := x; ⟨F, h⟩
end

/-- a thing without lists is its own -/
def nrm (r : Rv) : Rv := if noMut r.d then ⟨r.d, 2, []⟩ else r
theorem ValOk.nrm {K : PySem.W.Frag} {Cl : ClsT} {Hs H : Hp} {Fs : Nat → ASet} {v : V} {r : Rv} (x : ValOk K Cl Hs H Fs v r) : ValOk K Cl Hs H Fs v (nrm r) := by
  unfold VL.nrm
  by_cases h : noMut r.d = true
  · rw [if_pos h]
    obtain ⟨F, h1⟩ := x.rep
    exact .pureV (h1.pure h) h
  · rw [if_neg h]; exact x

/-- an expression -/
def VEok (X : Cx) (Cl : ClsT) (e : Expr) (f : VE) : Prop := ∃ t, PE X e t ∧ ∀ (H0 : Hp) (G : ASet) (σ : L2.St) (H : Hp) (env : Ev) (Fs : Nat → ASet) (ow : Nat → List Addr) (r : Rv) (Q : VK), StOk X.K Cl H0 G σ H env Fs ow → f env = some r →
  (∀ v H', Same H H' → ValOk X.K Cl H H' Fs v r → Q v H') → t σ H Q
/-- a test -/
abbrev VT := Ev → Option Bool
def VTok (X : Cx) (Cl : ClsT) (e : Expr) (f : VT) : Prop := ∃ t, PT X e t ∧ ∀ (H0 : Hp) (G : ASet) (σ : L2.St) (H : Hp) (env : Ev) (Fs : Nat → ASet) (ow : Nat → List Addr) (b : Bool) (Q : Bool → Hp → Prop), StOk X.K Cl H0 G σ H env Fs ow → f env = some b →
  (∀ H', Same H H' → Q b H') → t σ H Q
def VWok (X : Cx) (Cl : ClsT) (e : Expr) (f : VT) : Prop := ∃ t, PW X e t ∧ ∀ (H0 : Hp) (G : ASet) (σ : L2.St) (H : Hp) (env : Ev) (Fs : Nat → ASet) (ow : Nat → List Addr) (b : Bool) (Q : Bool → Hp → Prop), StOk X.K Cl H0 G σ H env Fs ow → f env = some b →
  (∀ H', Same H H' → Q b H') → t σ H Q
/-- several values, one behind another -/
def ValsOk (K : PySem.W.Frag) (Cl : ClsT) (Hs H : Hp) (Fs : Nat → ASet) : List V → List Rv → Prop
  | [], [] => True
  | v :: vs, r :: rs => ∃ H1, Same Hs H1 ∧ Same H1 H ∧ ValOk K Cl Hs H1 Fs v r ∧ ValsOk K Cl H1 H Fs vs rs
  | _, _ => False
abbrev VA := Ev → Option (List Rv)
def VAok (X : Cx) (Cl : ClsT) (es : List Expr) (f : VA) : Prop := ∃ t, PA X es t ∧ ∀ (H0 : Hp) (G : ASet) (σ : L2.St) (H : Hp) (env : Ev) (Fs : Nat → ASet) (ow : Nat → List Addr) (rs : List Rv) (Q : List V → Hp → Prop), StOk X.K Cl H0 G σ H env Fs ow → f env = some rs →
  (∀ vs H', Same H H' → ValsOk X.K Cl H H' Fs vs rs → Q vs H') → t σ H Q

/-! ### statements -/
inductive Rs where
  | nx (e : Ev) | bk (e : Ev) | ct (e : Ev) | ret (d : D) (l : Nat) | ex (e : Ev) (c : Nat) (fs : List (Str × D)) | no
/-- an exception of the class with number c, its fields -/
def ExcIs (K : PySem.W.Frag) (Cl : ClsT) (H : Hp) (cls : Value) (d : Option Addr) (c : Nat) (fs : List (Str × D)) : Prop :=
  ∃ C, Cl c = some C ∧ cls = .ref C ∧ (∀ p ∈ fs, noMut p.2 = true) ∧ (fs = [] ∨ ∃ dd vs, d = some dd ∧ H dd = some (.xd vs) ∧ RepF K Cl H (fun _ => False) vs fs)
abbrev VS := Ev → Rs
def EndOk (K : PySem.W.Frag) (Cl : ClsT) (W : WX) (H0 : Hp) (G : ASet) (D : Ends) (H : Hp) (ow : Nat → List Addr) : Rs → Prop
  | .nx e => ∀ σ' H' Fs' ow', Stp H ow H' ow' → StOk K Cl H0 G σ' H' e Fs' ow' → D.nx σ' H'
  | .bk e => ∀ σ' H' Fs' ow', Stp H ow H' ow' → StOk K Cl H0 G σ' H' e Fs' ow' → D.bk σ' H'
  | .ct e => ∀ σ' H' Fs' ow', Stp H ow H' ow' → StOk K Cl H0 G σ' H' e Fs' ow' → D.ct σ' H'
  | .ret d l => ∀ v H', (∀ a o, H a = some o → ¬ Ow ow a → H' a = some o) → RetOk K Cl H0 H' G v d l → D.rt v H'
  | .ex e c fs => ∀ σ' H' Fs' ow' cls d, Stp H ow H' ow' → StOk K Cl H0 G σ' H' e Fs' ow' → ExcIs K Cl H' cls d c fs → W cls d σ' H'
  | .no => False
theorem EndOk.later {K : PySem.W.Frag} {Cl : ClsT} {H0 H H1 : Hp} {G : ASet} {D : Ends} {ow ow1 : Nat → List Addr} {r : Rs} {W : WX} (h : EndOk K Cl W H0 G D H ow r) (s : Stp H ow H1 ow1) : EndOk K Cl W H0 G D H1 ow1 r := by
  cases r with
  | nx e => exact fun σ' H' Fs' ow' s' x => h σ' H' Fs' ow' (s.trans s') x
  | bk e => exact fun σ' H' Fs' ow' s' x => h σ' H' Fs' ow' (s.trans s') x
  | ct e => exact fun σ' H' Fs' ow' s' x => h σ' H' Fs' ow' (s.trans s') x
  | ret d l => exact fun v H' k x => h v H' (fun a o e n => by
      refine k a o (s.keep a o e n) fun q => ?_
      rcases s.own a q with q | q
      · exact n q
      · rw [q] at e; cases e) x
  | ex e c fs => exact fun σ' H' Fs' ow' cls d s' x => h σ' H' Fs' ow' cls d (s.trans s') x
  | no => exact h
def VSok (X : Cx) (W : WX) (Cl : ClsT) (st : Stmt) (f : VS) : Prop := ∃ t, PS X st t ∧ ∀ (H0 : Hp) (G : ASet) (D : Ends) (σ : L2.St) (H : Hp) (env : Ev) (Fs : Nat → ASet) (ow : Nat → List Addr), StOk X.K Cl H0 G σ H env Fs ow →
  EndOk X.K Cl W H0 G D H ow (f env) → t D σ H
def VBok (X : Cx) (W : WX) (Cl : ClsT) (st : List Stmt) (f : VS) : Prop := ∃ t, PSs X st t ∧ ∀ (H0 : Hp) (G : ASet) (D : Ends) (σ : L2.St) (H : Hp) (env : Ev) (Fs : Nat → ASet) (ow : Nat → List Addr), StOk X.K Cl H0 G σ H env Fs ow →
  EndOk X.K Cl W H0 G D H ow (f env) → t D σ H

def thaw (i : Nat) (e : Ev) : Ev := match e[i]? with
  | some (some (_, d)) => e.set i (some (0, d))
  | _ => e
def frz : List Nat → Ev → Ev
  | [], e => e
  | i :: al, e => frz al (thaw i e)
def put (i : Nat) (r : Rv) (e : Ev) : Ev := (frz r.al e).set i (some (r.l, r.d))

section
variable {K : PySem.W.Frag} {Cl : ClsT} {H0 Hs H H' : Hp} {G : ASet} {σ : L2.St} {env : Ev} {Fs : Nat → ASet} {ow : Nat → List Addr} {v : V} {r : Rv}
/-- what is owned, without slot i -/
def noOw (i : Nat) (ow : Nat → List Addr) : Nat → List Addr := fun j => if j = i then [] else ow j
theorem noOw_sub {i : Nat} {ow : Nat → List Addr} : ∀ j, ∀ a ∈ noOw i ow j, a ∈ ow j := fun j a h => by
  unfold noOw at h
  split at h
  · cases h
  · exact h
theorem thaw_length {i : Nat} {e : Ev} : (VL.thaw i e).length = e.length := by
  unfold VL.thaw
  split
  · rw [List.length_set]
  · rfl
theorem StOk.thaw (x : StOk K Cl H0 G σ H env Fs ow) (i : Nat) : StOk K Cl H0 G σ H (thaw i env) Fs (noOw i ow) := by
  unfold VL.thaw
  have own' : ∀ k, ∀ a ∈ noOw i ow k, Fs k a ∧ H0 a = none ∧ ∀ j, j ≠ k → ¬ Fs j a := fun k a h => x.own k a (noOw_sub k a h)
  have other : ∀ j fl d, j ≠ i → env[j]? = some (some (fl, d)) → ∃ v, σ[j]? = some (some v) ∧ Rep K Cl H (Fs j) v d ∧ Lv K Cl H (Fs j) fl v d (noOw i ow j) := fun j fl d hj e => by
    have : noOw i ow j = ow j := if_neg hj
    rw [this]; exact x.val j fl d e
  split
  · rename_i fl d e
    have hi : i < env.length := (List.getElem?_eq_some_iff.mp e).1
    refine ⟨x.same, by rw [List.length_set]; exact x.len, fun j fl' d' e' => ?_, x.trk, x.base, own', fun k a h => x.kind k a (noOw_sub k a h), fun k a f => by rw [List.length_set]; exact x.fin k a f⟩
    by_cases hj : j = i
    · subst hj
      rw [List.getElem?_set_self hi] at e'
      cases e'
      obtain ⟨v, h1, h2, h3⟩ := x.val j fl d e
      have : noOw j ow j = [] := if_pos rfl
      rw [this]
      exact ⟨v, h1, h2, .zero⟩
    · rw [List.getElem?_set_ne (fun z => hj z.symm)] at e'
      exact other j fl' d' hj e'
  · rename_i no
    refine ⟨x.same, x.len, fun j fl' d' e' => ?_, x.trk, x.base, own', fun k a h => x.kind k a (noOw_sub k a h), x.fin⟩
    by_cases hj : j = i
    · subst hj; exact absurd e' (no _ _)
    · exact other j fl' d' hj e'
def noOws : List Nat → (Nat → List Addr) → Nat → List Addr
  | [], ow => ow
  | i :: al, ow => noOws al (noOw i ow)
theorem noOws_sub : ∀ {al : List Nat} {ow : Nat → List Addr} (j : Nat), ∀ a ∈ noOws al ow j, a ∈ ow j
  | [], _, _, _, h => h
  | i :: al, ow, j, a, h => noOw_sub j a (noOws_sub (al := al) j a h)
theorem noOws_not : ∀ {al : List Nat} {ow : Nat → List Addr} {j : Nat} {a : Addr}, a ∈ noOws al ow j → j ∉ al
  | [], _, _, _, _ => by simp
  | i :: al, ow, j, a, h => by
    have h1 := noOws_not (al := al) h
    have h2 := noOws_sub (al := al) j a h
    unfold noOw at h2
    intro z
    rcases List.mem_cons.mp z with rfl | z
    · rw [if_pos rfl] at h2; cases h2
    · exact h1 z
theorem StOk.frz : ∀ {al : List Nat} {env : Ev} {ow : Nat → List Addr}, StOk K Cl H0 G σ H env Fs ow → StOk K Cl H0 G σ H (frz al env) Fs (noOws al ow)
  | [], _, _, x => x
  | i :: al, _, _, x => StOk.frz (al := al) (x.thaw i)
theorem frz_length : ∀ {al : List Nat} {e : Ev}, (VL.frz al e).length = e.length
  | [], _ => rfl
  | i :: al, e => by
    show (VL.frz al (VL.thaw i e)).length = _
    rw [frz_length, thaw_length]
def ins1 {α : Type _} (i : Nat) (x : α) (f : Nat → α) : Nat → α := fun j => if j = i then x else f j
theorem ins1_same {α : Type _} {i : Nat} {x : α} {f : Nat → α} : ins1 i x f i = x := if_pos rfl
theorem ins1_ne {α : Type _} {i j : Nat} {x : α} {f : Nat → α} (h : j ≠ i) : ins1 i x f j = f j := if_neg h
/-- a slot is stored -/
theorem StOk.put (x : StOk K Cl H0 G σ H env Fs ow) {i : Nat} (hi : i < env.length) (s : Same H H') (w : ValOk K Cl H H' Fs v r) :
    ∃ Fs' ow', Stp H ow H' ow' ∧ StOk K Cl H0 G (σ.set i (some v)) H' (put i r env) Fs' ow' := by
  obtain ⟨F, wo, h1, h2, h3, h4, h5⟩ := w
  have y := (x.frz (al := r.al)).go s
  refine ⟨ins1 i F Fs, ins1 i wo (noOws r.al ow), ?_, ?_⟩
  · refine .of_same s fun a ⟨j, hj⟩ => ?_
    by_cases e : j = i
    · subst e; rw [ins1_same] at hj; exact .inr (h5 a hj)
    · rw [ins1_ne e] at hj; exact .inl ⟨j, noOws_sub (al := r.al) j a hj⟩
  have hiσ : i < σ.length := by rw [← x.len]; exact hi
  refine ⟨y.same, by unfold VL.put; rw [List.length_set, List.length_set, frz_length]; exact x.len, fun j fl d e => ?_, fun j a f => ?_, fun j a f => ?_, fun j a ha => ?_, fun j a ha => ?_, fun j a f => ?_⟩
  · unfold VL.put at e
    by_cases hj : j = i
    · subst hj
      rw [List.getElem?_set_self (by rw [frz_length]; exact hi)] at e
      cases e
      rw [ins1_same, ins1_same]
      exact ⟨v, List.getElem?_set_self hiσ, h1, h4⟩
    · rw [List.getElem?_set_ne (fun z => hj z.symm)] at e
      rw [ins1_ne hj, ins1_ne hj, List.getElem?_set_ne (fun z => hj z.symm)]
      exact y.val j fl d e
  · by_cases hj : j = i
    · subst hj; rw [ins1_same] at f; exact h2 a f
    · rw [ins1_ne hj] at f; exact y.trk j a f
  · by_cases hj : j = i
    · subst hj
      rw [ins1_same] at f
      rcases h3 a f with h | ⟨k, _, h⟩
      · exact .inl (x.same.free h)
      · exact x.base k a h
    · rw [ins1_ne hj] at f; exact x.base j a f
  · by_cases hj : j = i
    · subst hj
      rw [ins1_same] at ha
      refine ⟨by rw [ins1_same]; exact h4.sub a ha, x.same.free (h5 a ha), fun k hk => ?_⟩
      rw [ins1_ne hk]
      exact fun f => x.trk k a f (h5 a ha)
    · rw [ins1_ne hj] at ha
      obtain ⟨q1, q2, q3⟩ := y.own j a ha
      refine ⟨by rw [ins1_ne hj]; exact q1, q2, fun k hk => ?_⟩
      by_cases hki : k = i
      · subst hki
        rw [ins1_same]
        intro f
        rcases h3 a f with h | ⟨m, hm, h⟩
        · exact x.trk j a q1 h
        · by_cases hmj : m = j
          · subst hmj; exact noOws_not ha hm
          · exact q3 m hmj h
      · rw [ins1_ne hki]; exact q3 k hk
  · by_cases hj : j = i
    · subst hj; rw [ins1_same] at ha; exact h4.kind a ha
    · rw [ins1_ne hj] at ha; exact y.kind j a ha
  · have hlen : (VL.put i r env).length = env.length := by unfold VL.put; rw [List.length_set, frz_length]
    rw [hlen]
    by_cases hj : j = i
    · subst hj; exact hi
    · rw [ins1_ne hj] at f; exact x.fin j a f
/-- what is not owned stays -/
theorem StOk.stay {H2 : Hp} {w2 : Nat → List Addr} {F : ASet} (x : StOk K Cl H0 G σ H env Fs ow) (s : Stp H ow H2 w2) (n : ∀ a, F a → ¬ Ow ow a) : Stay F H H2 := by
  have no : ∀ a o, H a = some o → ((∃ xs, o = .tup xs) ∨ ∃ p q, o = .frz p q) → ¬ Ow ow a := fun a o e k ⟨i, h⟩ => by
    obtain ⟨o', e', k1, k2⟩ := x.kind i a h
    rw [e] at e'
    cases e'
    rcases k with ⟨xs, rfl⟩ | ⟨p, q, rfl⟩
    · exact k1 _ rfl
    · exact k2 _ _ rfl
  exact ⟨fun a o f e => s.keep a o e (n a f), fun a xs e => s.keep a _ e (no a _ e (.inl ⟨_, rfl⟩)), fun a o u e => s.keep a _ e (no a _ e (.inr ⟨_, _, rfl⟩))⟩
/-- a value that leans on nothing owned -/
def Sep (K : PySem.W.Frag) (Cl : ClsT) (H0 H : Hp) (G : ASet) (ow : Nat → List Addr) (F : ASet) (v : V) (d : D) : Prop :=
  Rep K Cl H F v d ∧ (∀ a, F a → H a ≠ none) ∧ (∀ a, F a → H0 a = none ∨ G a) ∧ ∀ a, F a → ¬ Ow ow a
/-- a slot is stored, of such a value -/
theorem StOk.put0 {d : D} (x : StOk K Cl H0 G σ H env Fs ow) {i : Nat} {F : ASet} (hi : i < env.length) (w : Sep K Cl H0 H G ow F v d) :
    ∃ Fs' ow', (∀ a, Ow ow' a → Ow ow a) ∧ (∀ j a, Fs' j a → Fs j a ∨ F a) ∧ StOk K Cl H0 G (σ.set i (some v)) H (env.set i (some (0, d))) Fs' ow' := by
  obtain ⟨h1, h2, h3, h4⟩ := w
  have hiσ : i < σ.length := by rw [← x.len]; exact hi
  refine ⟨ins1 i F Fs, noOw i ow, fun a ⟨j, hj⟩ => ⟨j, noOw_sub j a hj⟩, fun j a f => (by
    by_cases hj : j = i
    · subst hj; rw [ins1_same] at f; exact .inr f
    · rw [ins1_ne hj] at f; exact .inl f), x.same, by rw [List.length_set, List.length_set]; exact x.len, fun j fl d' e => ?_, fun j a f => ?_, fun j a f => ?_, fun j a ha => ?_, fun j a ha => x.kind j a (noOw_sub j a ha), fun j a f => (by
    rw [List.length_set]
    by_cases hj : j = i
    · subst hj; exact hi
    · rw [ins1_ne hj] at f; exact x.fin j a f)⟩
  · by_cases hj : j = i
    · subst hj
      rw [List.getElem?_set_self hi] at e
      cases e
      rw [ins1_same]
      have : noOw j ow j = [] := if_pos rfl
      rw [this]
      exact ⟨v, List.getElem?_set_self hiσ, h1, .zero⟩
    · rw [List.getElem?_set_ne (fun z => hj z.symm)] at e
      have : noOw i ow j = ow j := if_neg hj
      rw [this, ins1_ne hj, List.getElem?_set_ne (fun z => hj z.symm)]
      exact x.val j fl d' e
  · by_cases hj : j = i
    · subst hj; rw [ins1_same] at f; exact h2 a f
    · rw [ins1_ne hj] at f; exact x.trk j a f
  · by_cases hj : j = i
    · subst hj; rw [ins1_same] at f; exact h3 a f
    · rw [ins1_ne hj] at f; exact x.base j a f
  · have hj : j ≠ i := fun z => by
      subst z
      have : noOw j ow j = [] := if_pos rfl
      rw [this] at ha; cases ha
    have ha' := noOw_sub j a ha
    obtain ⟨q1, q2, q3⟩ := x.own j a ha'
    refine ⟨by rw [ins1_ne hj]; exact q1, q2, fun k hk => ?_⟩
    by_cases hki : k = i
    · subst hki; rw [ins1_same]; exact fun f => h4 a f ⟨j, ha'⟩
    · rw [ins1_ne hki]; exact q3 k hk
/-- behind the freezing of what a value leans on, it is such a value -/
theorem ValOk.sep {H' : Hp} (w : ValOk K Cl H H' Fs v r) (x : StOk K Cl H0 G σ H env Fs ow) : ∃ F, Sep K Cl H0 H' G (noOws r.al ow) F v r.d := by
  obtain ⟨F, wo, h1, h2, h3, h4, h5⟩ := w
  refine ⟨F, h1, h2, fun a f => ?_, fun a f ⟨j, hj⟩ => ?_⟩
  · rcases h3 a f with h | ⟨k, _, h⟩
    · exact .inl (x.same.free h)
    · exact x.base k a h
  · have hj' := noOws_sub (al := r.al) j a hj
    obtain ⟨q1, q2, q3⟩ := x.own j a hj'
    rcases h3 a f with h | ⟨k, hk, h⟩
    · exact x.trk j a q1 h
    · by_cases e : k = j
      · subst e; exact noOws_not hj hk
      · exact q3 k e h
end
end VL

namespace VL
open PySem PySem.Spec L2

theorem same_upd {H : Hp} {p : Addr} {o : HO} (h : H p = none) : Same H (upd H p o) := fun b u e => by rw [upd_ne (ne_of_none e h)]; exact e

section
variable {X : Cx} {Cl : ClsT}
/-! ### names, constants -/
def vName (i : Nat) : VE := fun env => match env[i]? with
  | some (some (_, d)) => some (nrm ⟨d, 0, [i]⟩)
  | _ => none
theorem StOk.read {K : PySem.W.Frag} {H0 H : Hp} {G : ASet} {σ : L2.St} {env : Ev} {Fs : Nat → ASet} {ow : Nat → List Addr} (S : StOk K Cl H0 G σ H env Fs ow) {i fl : Nat} {d : D} (e : env[i]? = some (some (fl, d))) :
    ∃ v, σ[i]? = some (some v) ∧ ValOk K Cl H H Fs v ⟨d, 0, [i]⟩ := by
  obtain ⟨v, h1, h2, h3⟩ := S.val i fl d e
  exact ⟨v, h1, Fs i, [], h2, S.trk i, fun a f => .inr ⟨i, List.mem_singleton.mpr rfl, f⟩, .zero, fun _ z => by cases z⟩
theorem ve_name (i : Nat) {x : Str} {pos : Pos} (hN : X.N[i]? = some x := by rfl) (hv : Vis X.env.scope x := by first | exact Or.inl rfl | exact Or.inr (Or.inl rfl) | exact Or.inr (Or.inr rfl)) (hd : (x == ("__debug__" : Str)) = false := by decide)
    (hcd : (x == ("__classdict__" : Str)) = false := by decide) : VEok X Cl (.Name x pos) (vName i) := by
  refine ⟨_, pe_var (i := i) hN hv hd hcd, fun H0 G σ H env Fs ow r Q S e k => ?_⟩
  unfold vName at e
  split at e
  · rename_i fl d e1
    obtain ⟨v, h1, h2⟩ := S.read e1
    cases e
    exact ⟨v, h1, k v H (Same.refl _) h2.nrm⟩
  · cases e
def vC (d : D) : VE := fun _ => some ⟨d, 2, []⟩
theorem ve_c {e : Expr} {v : V} {d : D} (h : PE X e (tC v)) (r : ∀ K H, Rep K Cl H (fun _ => False) v d) (n : noMut d = true) : VEok X Cl e (vC d) :=
  ⟨_, h, fun H0 G σ H env Fs ow r' Q S e k => by cases e; exact k v H (Same.refl _) (.pureV (r _ _) n)⟩
theorem ve_int {i : Int} {j pos} : VEok X Cl (.Constant (.int i) j pos) (vC (.int i)) := ve_c pe_int (fun _ _ => .int i) rfl
theorem ve_bl {b : Bool} {j pos} : VEok X Cl (.Constant (.bool b) j pos) (vC (.bl b)) := ve_c pe_bl (fun _ _ => .bl b) rfl
theorem ve_non {j pos} : VEok X Cl (.Constant .none j pos) (vC .non) := ve_c pe_non (fun _ _ => .non) rfl
theorem ve_str {x : Str} {j pos} : VEok X Cl (.Constant (.str x) j pos) (vC (.str x)) := ve_c pe_str (fun _ _ => .str x) rfl
theorem ve_glob_int {x : Str} {i : Int} {t : Tok} {pos : Pos} (hg : Gl X x) (hm : X.mg x = some (.int i t)) (hd : (x == ("__debug__" : Str)) = false := by decide) : VEok X Cl (.Name x pos) (vC (.int i)) := ve_c (pe_glob (v := .int i) hg hm ⟨_, rfl⟩ hd) (fun _ _ => .int i) rfl

/-! ### two values -/
abbrev G2 := Rv → Rv → Option Rv
def OpV (X : Cx) (Cl : ClsT) (r : R2) (g : G2) : Prop := ∀ (Hs H1 H2 : Hp) (Fs : Nat → ASet) (x y : V) (rx ry rr : Rv) (Q : VK), Same Hs H1 → Same H1 H2 → ValOk X.K Cl Hs H2 Fs x rx → ValOk X.K Cl H1 H2 Fs y ry → g rx ry = some rr →
  (∀ v H3, Same H2 H3 → ValOk X.K Cl Hs H3 Fs v rr → Q v H3) → r x y H2 Q
def v2 (g : G2) (f f' : VE) : VE := fun env => match f env with
  | some x => match f' env with
    | some y => g x y
    | none => none
  | none => none
theorem op2 {r : R2} {g : G2} {ta tb : TE} {f f' : VE} {H0 : Hp} {G : ASet} {σ : L2.St} {H : Hp} {env : Ev} {Fs : Nat → ASet} {ow : Nat → List Addr} {rr : Rv} {Q : VK} (hg : OpV X Cl r g) (S : StOk X.K Cl H0 G σ H env Fs ow)
    (a : ∀ (H0 : Hp) (G : ASet) (σ : L2.St) (H : Hp) (env : Ev) (Fs : Nat → ASet) (ow : Nat → List Addr) (r : Rv) (Q : VK), StOk X.K Cl H0 G σ H env Fs ow → f env = some r → (∀ v H', Same H H' → ValOk X.K Cl H H' Fs v r → Q v H') → ta σ H Q)
    (b : ∀ (H0 : Hp) (G : ASet) (σ : L2.St) (H : Hp) (env : Ev) (Fs : Nat → ASet) (ow : Nat → List Addr) (r : Rv) (Q : VK), StOk X.K Cl H0 G σ H env Fs ow → f' env = some r → (∀ v H', Same H H' → ValOk X.K Cl H H' Fs v r → Q v H') → tb σ H Q)
    (e : v2 g f f' env = some rr) (k : ∀ v H', Same H H' → ValOk X.K Cl H H' Fs v rr → Q v H') : ta σ H fun x H1 => tb σ H1 fun y H2 => r x y H2 Q := by
  unfold v2 at e
  split at e
  · rename_i x ex
    split at e
    · rename_i y ey
      refine a _ _ _ _ _ _ _ _ _ S ex fun v H1 s1 w1 => b _ _ _ _ _ _ _ _ _ (S.go s1) ey fun u H2 s2 w2 => ?_
      exact hg H H1 H2 Fs v u x y rr Q s1 s2 (w1.same s2) w2 e fun z H3 s3 w3 => k z H3 ((s1.trans s2).trans s3) w3
    · cases e
  · cases e
theorem ve_op {a b : Expr} {op : Operator} {pos : Pos} {r : R2} {g : G2} {f f' : VE} (ho : OpR X (binaryOp op) r) (hg : OpV X Cl r g) (ha : VEok X Cl a f) (hb : VEok X Cl b f') : VEok X Cl (.BinOp a op b pos) (v2 g f f') := by
  obtain ⟨ta, pa, qa⟩ := ha
  obtain ⟨tb, pb, qb⟩ := hb
  exact ⟨_, pe_op ho pa pb, fun H0 G σ H env Fs ow rr Q S e k => op2 hg S qa qb e k⟩
theorem ve_cmp {a b : Expr} {op : CmpOp} {pos : Pos} {r : R2} {g : G2} {f f' : VE} (ho : OpR X (compareOp op) r) (hg : OpV X Cl r g) (ha : VEok X Cl a f) (hb : VEok X Cl b f') (hm : behindInMarks op b = false) : VEok X Cl (.Compare a [op] [b] pos) (v2 g f f') := by
  obtain ⟨ta, pa, qa⟩ := ha
  obtain ⟨tb, pb, qb⟩ := hb
  exact ⟨_, pe_cmpR ho pa pb hm, fun H0 G σ H env Fs ow rr Q S e k => op2 hg S qa qb e k⟩
theorem OpV.or {r r' : R2} {g g' : G2} (h : OpV X Cl r g) (h' : OpV X Cl r' g') : OpV X Cl (fun x y H Q => r x y H Q ∨ r' x y H Q) (fun x y => match g x y with | some z => some z | none => g' x y) := by
  intro Hs H1 H2 Fs x y rx ry rr Q s1 s2 w1 w2 e k
  dsimp only at e
  split at e
  · rename_i z ez
    cases e
    exact .inl (h _ _ _ _ _ _ _ _ _ _ s1 s2 w1 w2 ez k)
  · exact .inr (h' _ _ _ _ _ _ _ _ _ _ s1 s2 w1 w2 e k)

def gI (g : Int → Int → D) : G2 := fun x y => match x.d, y.d with
  | .int i, .int j => some ⟨g i j, 2, []⟩
  | _, _ => none
theorem val_int {K : PySem.W.Frag} {Hs H : Hp} {Fs : Nat → ASet} {v : V} {r : Rv} {i : Int} (w : ValOk K Cl Hs H Fs v r) (e : r.d = .int i) : v = .int i := by
  obtain ⟨F, h⟩ := w.rep
  rw [e] at h
  exact h.int_of
theorem val_bl {K : PySem.W.Frag} {Hs H : Hp} {Fs : Nat → ASet} {v : V} {r : Rv} {i : Bool} (w : ValOk K Cl Hs H Fs v r) (e : r.d = .bl i) : v = .bl i := by
  obtain ⟨F, h⟩ := w.rep
  rw [e] at h
  exact h.bl_of
theorem val_str {K : PySem.W.Frag} {Hs H : Hp} {Fs : Nat → ASet} {v : V} {r : Rv} {i : Str} (w : ValOk K Cl Hs H Fs v r) (e : r.d = .str i) : v = .str i := by
  obtain ⟨F, h⟩ := w.rep
  rw [e] at h
  exact h.str_of
theorem val_non {K : PySem.W.Frag} {Hs H : Hp} {Fs : Nat → ASet} {v : V} {r : Rv} (w : ValOk K Cl Hs H Fs v r) (e : r.d = .non) : v = .non := by
  obtain ⟨F, h⟩ := w.rep
  rw [e] at h
  exact h.non_of
theorem opV_I {g : Int → Int → V} {g' : Int → Int → D} (h : ∀ K H i j, Rep K Cl H (fun _ => False) (g i j) (g' i j)) (n : ∀ i j, noMut (g' i j) = true) : OpV X Cl (rI0 g) (gI g') := by
  intro Hs H1 H2 Fs x y rx ry rr Q s1 s2 w1 w2 e k
  unfold gI at e
  split at e
  · rename_i i j e1 e2
    cases e
    exact ⟨i, j, val_int w1 e1, val_int w2 e2, k _ _ (Same.refl _) (.pureV (h _ _ _ _) (n i j))⟩
  · cases e
def gIC (c : Int → Int → Bool) (g : Int → Int → D) : G2 := fun x y => match x.d, y.d with
  | .int i, .int j => if c i j = true then some ⟨g i j, 2, []⟩ else none
  | _, _ => none
theorem opV_IC {C : Int → Int → Prop} {c : Int → Int → Bool} {g : Int → Int → V} {g' : Int → Int → D} (hc : ∀ i j, c i j = true → C i j) (h : ∀ K H i j, Rep K Cl H (fun _ => False) (g i j) (g' i j)) (n : ∀ i j, noMut (g' i j) = true) : OpV X Cl (rI C g) (gIC c g') := by
  intro Hs H1 H2 Fs x y rx ry rr Q s1 s2 w1 w2 e k
  unfold gIC at e
  split at e
  · rename_i i j e1 e2
    split at e
    · rename_i hcij
      cases e
      exact ⟨i, j, val_int w1 e1, val_int w2 e2, hc i j hcij, k _ _ (Same.refl _) (.pureV (h _ _ _ _) (n i j))⟩
    · cases e
  · cases e

/-! ### new lists and tuples -/
def mkL (es : List D) (al : List Nat) : Rv := if noMutL es then ⟨.lst es, 2, []⟩ else ⟨.lst es, 1, al⟩
theorem grid_pure {K : PySem.W.Frag} {H : Hp} : ∀ {vs : List V} {ds : List D} {F : ASet}, Reps K Cl H F vs ds → noMutL ds = true → Grid K Cl H [] vs ds
  | _, _, _, .nil, _ => .nil
  | _, _, _, .cons a b, n => by
    rw [noMutL, Bool.and_eq_true] at n
    exact .pure (a.pure n.1) n.1 (grid_pure b n.2)
theorem new_list {K : PySem.W.Frag} {Hs H : Hp} {Fs : Nat → ASet} {F : ASet} {xs : List V} {es : List D} {al : List Nat} {p : Addr} (s : Same Hs H) (hr : Reps K Cl H F xs es) (ht : ∀ a, F a → H a ≠ none) (hf : ∀ a, F a → Hs a = none ∨ ∃ j ∈ al, Fs j a) (hp : H p = none) :
    ValOk K Cl Hs (upd H p (.lst xs)) Fs (.ref p) (mkL es al) := by
  have s2 : Same H (upd H p (.lst xs)) := same_upd hp
  unfold mkL
  by_cases n : noMutL es = true
  · rw [if_pos n]
    refine ⟨fun a => a = p, [p], .lst upd_same rfl ((hr.same s2).pure n), fun a e => ?_, fun a e => ?_, .two upd_same (grid_pure (hr.same s2) n) (by simp) rfl (fun _ z => by cases z), fun a ha => ?_⟩
    · subst e; rw [upd_same]; intro z; cases z
    · subst e; exact .inl (s.free hp)
    · rw [List.mem_singleton] at ha; subst ha; exact s.free hp
  · rw [if_neg n]
    have np : ¬ F p := fun f => ht p f hp
    refine ⟨fun a => a = p ∨ F a, [p], .lst upd_same (.inl rfl) ((hr.same s2).mono fun a f => .inr f), fun a e => ?_, fun a e => ?_, .one (F' := F) (.lst upd_same (hr.same s2)) np (fun b f => .inr f) (.inl rfl), fun a ha => ?_⟩
    · by_cases q : a = p
      · subst q; rw [upd_same]; intro z; cases z
      · rw [upd_ne q]
        rcases e with e | e
        · exact absurd e q
        · exact ht a e
    · rcases e with e | e
      · subst e; exact .inl (s.free hp)
      · exact hf a e
    · rw [List.mem_singleton] at ha; subst ha; exact s.free hp
theorem new_tup {K : PySem.W.Frag} {Hs H : Hp} {Fs : Nat → ASet} {F : ASet} {xs : List V} {es : List D} {al : List Nat} {p : Addr} (hr : Reps K Cl H F xs es) (ht : ∀ a, F a → H a ≠ none) (hf : ∀ a, F a → Hs a = none ∨ ∃ j ∈ al, Fs j a) (hp : H p = none) :
    ValOk K Cl Hs (upd H p (.tup xs)) Fs (.ref p) (nrm ⟨.tup es, 0, al⟩) := by
  have s2 : Same H (upd H p (.tup xs)) := same_upd hp
  refine ValOk.nrm ⟨F, [], .tup (SqT.of upd_same) (hr.same s2), fun a f => ?_, hf, .zero, fun _ z => by cases z⟩
  have := ht a f
  cases e : H a with
  | none => exact absurd e this
  | some o => rw [s2 a o e]; intro z; cases z

/-! ### arguments and displays -/
theorem va_nil : VAok X Cl [] (fun _ => some []) := ⟨_, pa_nil, fun H0 G σ H env Fs ow rs Q S e k => by cases e; exact k [] H (Same.refl _) trivial⟩
def vCons (f : VE) (g : VA) : VA := fun env => match f env with
  | some x => match g env with
    | some xs => some (x :: xs)
    | none => none
  | none => none
theorem va_cons {e : Expr} {es : List Expr} {f : VE} {g : VA} (ha : VEok X Cl e f) (hr : VAok X Cl es g) (hs : starEach (e :: es) X.env = (false, eval e X.env) :: starEach es X.env := by rfl) : VAok X Cl (e :: es) (vCons f g) := by
  obtain ⟨ta, pa, qa⟩ := ha
  obtain ⟨tr, pr, qr⟩ := hr
  refine ⟨_, pa_cons pa pr hs, fun H0 G σ H env Fs ow rs Q S e k => ?_⟩
  unfold vCons at e
  split at e
  · rename_i x ex
    split at e
    · rename_i xs exs
      cases e
      refine qa _ _ _ _ _ _ _ _ _ S ex fun v H1 s1 w1 => qr _ _ _ _ _ _ _ _ _ (S.go s1) exs fun vs H2 s2 w2 => k _ _ (s1.trans s2) ⟨H1, s1, s2, w1, w2⟩
    · cases e
  · cases e
end
theorem ValsOk.length {K : PySem.W.Frag} {Cl : ClsT} {H : Hp} {Fs : Nat → ASet} : ∀ {vs : List V} {rs : List Rv} {Hs : Hp}, ValsOk K Cl Hs H Fs vs rs → vs.length = rs.length
  | [], [], _, _ => rfl
  | v :: vs, r :: rs, _, ⟨_, _, _, _, h⟩ => by rw [List.length_cons, List.length_cons, ValsOk.length h]
  | [], _ :: _, _, h => h.elim
  | _ :: _, [], _, h => h.elim
def dsOf (rs : List Rv) : List D := rs.map (·.d)
def alOf (rs : List Rv) : List Nat := rs.flatMap (·.al)
theorem ValsOk.reps {K : PySem.W.Frag} {Cl : ClsT} {H : Hp} {Fs : Nat → ASet} : ∀ {vs : List V} {rs : List Rv} {Hs : Hp}, ValsOk K Cl Hs H Fs vs rs →
    ∃ F : ASet, Reps K Cl H F vs (dsOf rs) ∧ (∀ a, F a → H a ≠ none) ∧ ∀ a, F a → Hs a = none ∨ ∃ j ∈ alOf rs, Fs j a
  | [], [], _, _ => ⟨fun _ => False, .nil, fun _ f => f.elim, fun _ f => f.elim⟩
  | v :: vs, r :: rs, Hs, ⟨H1, s1, s2, w, h⟩ => by
    obtain ⟨F2, r2, t2, f2⟩ := ValsOk.reps h
    obtain ⟨F1, _, r1, t1, f1, _, _⟩ := w.same s2
    refine ⟨fun a => F1 a ∨ F2 a, .cons (r1.mono fun _ => .inl) (r2.mono fun _ => .inr), fun a f => f.elim (t1 a) (t2 a), fun a f => ?_⟩
    have mem : ∀ j, j ∈ alOf (r :: rs) ↔ j ∈ r.al ∨ j ∈ alOf rs := fun j => by unfold alOf; rw [List.flatMap_cons, List.mem_append]
    rcases f with f | f
    · rcases f1 a f with h | ⟨j, hj, h⟩
      · exact .inl h
      · exact .inr ⟨j, (mem j).mpr (.inl hj), h⟩
    · rcases f2 a f with h | ⟨j, hj, h⟩
      · exact .inl (s1.free h)
      · exact .inr ⟨j, (mem j).mpr (.inr hj), h⟩
  | [], _ :: _, _, h => h.elim
  | _ :: _, [], _, h => h.elim
def gridChild (r : Rv) : Bool := noMut r.d || (decide (1 ≤ r.l) && isFlat r.d)
theorem isFlat_of {d : D} (h : isFlat d = true) : ∃ es, d = .lst es ∧ noMutL es = true := by
  cases d with
  | lst es => exact ⟨es, rfl, h⟩
  | _ => cases h
theorem ValsOk.grid {K : PySem.W.Frag} {Cl : ClsT} {H : Hp} {Fs : Nat → ASet} : ∀ {vs : List V} {rs : List Rv} {Hs : Hp}, ValsOk K Cl Hs H Fs vs rs → rs.all gridChild = true → ∃ as, Grid K Cl H as vs (dsOf rs) ∧ ∀ b ∈ as, Hs b = none
  | [], [], _, _, _ => ⟨[], .nil, fun _ z => by cases z⟩
  | v :: vs, r :: rs, Hs, ⟨H1, s1, s2, w, h⟩, g => by
    rw [List.all_cons, Bool.and_eq_true] at g
    obtain ⟨as, ga, fa⟩ := ValsOk.grid h g.2
    by_cases n : noMut r.d = true
    · obtain ⟨F, q⟩ := (w.same s2).rep
      exact ⟨as, .pure (q.pure n) n ga, fun b hb => s1.free (fa b hb)⟩
    · have g1 : (decide (1 ≤ r.l) && isFlat r.d) = true := by
        have := g.1
        unfold gridChild at this
        rw [Bool.or_eq_true] at this
        exact this.resolve_left n
      rw [Bool.and_eq_true, decide_eq_true_eq] at g1
      obtain ⟨es, ed, ne⟩ := isFlat_of g1.2
      obtain ⟨F, ow, q1, q2, q3, q4, q5⟩ := w
      obtain ⟨b, F', rfl, own, _, _, _, hb⟩ := q4.top g1.1 (by cases e : noMut r.d with | false => rfl | true => exact absurd e n)
      have own2 := own.go (.of_same s2) fun o e => s2 b o e
      rw [ed] at own2
      cases own2 with
      | lst hl hr =>
        have hb1 : H1 b ≠ none := q2 b (q4.sub b hb)
        refine ⟨b :: as, ?_, fun c hc => ?_⟩
        · show Grid K Cl H (b :: as) _ (r.d :: dsOf rs)
          rw [ed]
          exact .own hl (hr.pure ne) ne (fun z => hb1 (fa b z)) ga
        · rcases List.mem_cons.mp hc with rfl | hc
          · exact q5 _ hb
          · exact s1.free (fa c hc)
  | [], _ :: _, _, h, _ => h.elim
  | _ :: _, [], _, h, _ => h.elim

section
variable {X : Cx} {Cl : ClsT}
def lstRv (rs : List Rv) : Rv := if rs.all gridChild then ⟨.lst (dsOf rs), 2, []⟩ else ⟨.lst (dsOf rs), 1, alOf rs⟩
theorem lst_made {K : PySem.W.Frag} {Hs H : Hp} {Fs : Nat → ASet} {vs : List V} {rs : List Rv} {p : Addr} (s : Same Hs H) (w : ValsOk K Cl Hs H Fs vs rs) (hp : H p = none) : ValOk K Cl Hs (upd H p (.lst vs)) Fs (.ref p) (lstRv rs) := by
  unfold lstRv
  have s2 : Same H (upd H p (.lst vs)) := same_upd hp
  by_cases g : rs.all gridChild = true
  · rw [if_pos g]
    obtain ⟨as, ga, fa⟩ := w.grid g
    have np : p ∉ as := fun z => by obtain ⟨ys, e⟩ := ga.there p z; rw [hp] at e; cases e
    have gb : Grid K Cl (upd H p (.lst vs)) as vs (dsOf rs) := ga.go (F := fun _ => True) (.of_same s2) fun _ _ => trivial
    refine ⟨fun a => a = p ∨ a ∈ as, p :: as, .lst upd_same (.inl rfl) (gb.reps.mono fun b hb => .inr hb), fun a e => ?_, fun a e => ?_, .two upd_same gb np (.inl rfl) (fun b hb => .inr hb), fun a ha => ?_⟩
    · rcases e with e | e
      · subst e; rw [upd_same]; intro z; cases z
      · obtain ⟨ys, e'⟩ := gb.there a e; rw [e']; intro z; cases z
    · rcases e with e | e
      · subst e; exact .inl (s.free hp)
      · exact .inl (fa a e)
    · rcases List.mem_cons.mp ha with rfl | ha
      · exact s.free hp
      · exact fa a ha
  · rw [if_neg g]
    obtain ⟨F, r, t, f⟩ := w.reps
    have n : ¬ noMutL (dsOf rs) = true := fun z => g (List.all_eq_true.mpr fun r hr => by
      unfold gridChild
      rw [noMutL_mem z r.d (List.mem_map.mpr ⟨r, hr, rfl⟩)]
      rfl)
    have := new_list (Fs := Fs) (al := alOf rs) (p := p) s r t f hp
    unfold mkL at this
    rw [if_neg n] at this
    exact this
def vLst (g : VA) : VE := fun env => match g env with
  | some rs => if rs.length ≤ 1000 then some (lstRv rs) else none
  | none => none
def vTup (g : VA) : VE := fun env => match g env with
  | some rs => if rs.length ≤ 1000 then some (nrm ⟨.tup (dsOf rs), 0, alOf rs⟩) else none
  | none => none
theorem small_line {n : Nat} (h : n ≤ 1000) : n ≤ sizeLine := Nat.le_of_lt (small1000 h)
theorem ve_lst {es : List Expr} {pos : Pos} {g : VA} (h : VAok X Cl es g) : VEok X Cl (.List es pos) (vLst g) := by
  obtain ⟨t, p, q⟩ := h
  refine ⟨_, pe_lst p, fun H0 G σ H env Fs ow r Q S e k => ?_⟩
  unfold vLst at e
  split at e
  · rename_i rs ers
    split at e
    · rename_i hl
      cases e
      refine q _ _ _ _ _ _ _ _ _ S ers fun vs H1 s1 w => ⟨by rw [w.length]; exact small_line hl, fun a ha => k _ _ (s1.trans (same_upd ha)) (lst_made s1 w ha)⟩
    · cases e
  · cases e
theorem ve_tup {es : List Expr} {x1 : Nat} {pos : Pos} {g : VA} (h : VAok X Cl es g) : VEok X Cl (.Tuple es x1 pos) (vTup g) := by
  obtain ⟨t, p, q⟩ := h
  refine ⟨_, pe_tup p, fun H0 G σ H env Fs ow r Q S e k => ?_⟩
  unfold vTup at e
  split at e
  · rename_i rs ers
    split at e
    · rename_i hl
      cases e
      refine q _ _ _ _ _ _ _ _ _ S ers fun vs H1 s1 w => ⟨by rw [w.length]; exact small_line hl, fun a ha => ?_⟩
      obtain ⟨F, r, t, f⟩ := w.reps
      exact k _ _ (s1.trans (same_upd ha)) (new_tup r t f ha)
    · cases e
  · cases e
end
end VL

namespace VL
open PySem PySem.Spec L2

section
variable {X : Cx} {Cl : ClsT}
/-! ### operators of whole numbers -/
theorem ov_add : OpV X Cl (rI0 fun i j => .int (i + j)) (gI fun i j => .int (i + j)) := opV_I (fun _ _ _ _ => .int _) fun _ _ => rfl
theorem ov_sub : OpV X Cl (rI0 fun i j => .int (i - j)) (gI fun i j => .int (i - j)) := opV_I (fun _ _ _ _ => .int _) fun _ _ => rfl
def cMul (i j : Int) : Bool := (decide (-(2 ^ 64) < i) && decide (i < 2 ^ 64)) || (decide (-(2 ^ 64) < j) && decide (j < 2 ^ 64))
theorem ov_mul : OpV X Cl (rI CMul fun i j => .int (i * j)) (gIC cMul fun i j => .int (i * j)) := opV_IC (fun i j h => by
  unfold cMul at h
  simp only [Bool.or_eq_true, Bool.and_eq_true, decide_eq_true_eq] at h
  exact h) (fun _ _ _ _ => .int _) fun _ _ => rfl
theorem ov_mod : OpV X Cl (rI (fun _ j => 0 < j) fun i j => .int (i % j)) (gIC (fun _ j => decide (0 < j)) fun i j => .int (i % j)) := opV_IC (fun i j h => by simpa using h) (fun _ _ _ _ => .int _) fun _ _ => rfl
theorem ov_fdiv : OpV X Cl (rI CDiv fun i j => .int (i / j)) (gIC (fun _ j => decide (0 < j) && decide (j < 1073741824)) fun i j => .int (i / j)) := opV_IC (fun i j h => by simpa [CDiv] using h) (fun _ _ _ _ => .int _) fun _ _ => rfl
theorem ov_pow : OpV X Cl (rI CPow fun i j => .int (i ^ j.toNat)) (gIC (fun i j => decide (0 ≤ j) && (decide (j ≤ 1000000) && decide (i.natAbs < 2 ^ 64))) fun i j => .int (i ^ j.toNat)) := opV_IC (fun i j h => by simpa [CPow] using h) (fun _ _ _ _ => .int _) fun _ _ => rfl
theorem ov_lt : OpV X Cl (rI0 fun i j => .bl (decide (i < j))) (gI fun i j => .bl (decide (i < j))) := opV_I (fun _ _ _ _ => .bl _) fun _ _ => rfl
theorem ov_le : OpV X Cl (rI0 fun i j => .bl (decide (i ≤ j))) (gI fun i j => .bl (decide (i ≤ j))) := opV_I (fun _ _ _ _ => .bl _) fun _ _ => rfl
theorem ov_gt : OpV X Cl (rI0 fun i j => .bl (decide (j < i))) (gI fun i j => .bl (decide (j < i))) := opV_I (fun _ _ _ _ => .bl _) fun _ _ => rfl
theorem ov_ge : OpV X Cl (rI0 fun i j => .bl (decide (j ≤ i))) (gI fun i j => .bl (decide (j ≤ i))) := opV_I (fun _ _ _ _ => .bl _) fun _ _ => rfl

/-! ### sums of lists, of tuples, of texts; lists repeated -/
def gCat : G2 := fun x y => match x.d, y.d with
  | .lst xs, .lst ys => if xs.length + ys.length ≤ 16777216 then some (mkL (xs ++ ys) (x.al ++ y.al)) else none
  | _, _ => none
theorem two_reps {K : PySem.W.Frag} {Hs H1 H2 : Hp} {Fs : Nat → ASet} {x y : V} {rx ry : Rv} (s1 : Same Hs H1) (w1 : ValOk K Cl Hs H2 Fs x rx) (w2 : ValOk K Cl H1 H2 Fs y ry) :
    ∃ F : ASet, Rep K Cl H2 F x rx.d ∧ Rep K Cl H2 F y ry.d ∧ (∀ a, F a → H2 a ≠ none) ∧ ∀ a, F a → Hs a = none ∨ ∃ j ∈ rx.al ++ ry.al, Fs j a := by
  obtain ⟨F1, _, r1, t1, f1, _⟩ := w1
  obtain ⟨F2, _, r2, t2, f2, _⟩ := w2
  refine ⟨fun a => F1 a ∨ F2 a, r1.mono fun _ => .inl, r2.mono fun _ => .inr, fun a f => f.elim (t1 a) (t2 a), fun a f => ?_⟩
  rcases f with f | f
  · rcases f1 a f with h | ⟨j, hj, h⟩
    · exact .inl h
    · exact .inr ⟨j, List.mem_append_left _ hj, h⟩
  · rcases f2 a f with h | ⟨j, hj, h⟩
    · exact .inl (s1.free h)
    · exact .inr ⟨j, List.mem_append_right _ hj, h⟩
theorem line_eq {n : Nat} (h : n ≤ 16777216) : n ≤ sizeLine := by rw [sizeLine_eq]; exact h
theorem ov_cat : OpV X Cl rCat gCat := by
  intro Hs H1 H2 Fs x y rx ry rr Q s1 s2 w1 w2 e k
  unfold gCat at e
  split at e
  · rename_i xs ys e1 e2
    split at e
    · rename_i hl
      cases e
      obtain ⟨F, r1, r2, t, f⟩ := two_reps s1 w1 w2
      rw [e1] at r1
      rw [e2] at r2
      obtain ⟨a, us, rfl, ha, fa, ra⟩ := r1.lst_of
      obtain ⟨b, vs, rfl, hb, fb, rb⟩ := r2.lst_of
      exact ⟨a, b, us, vs, rfl, rfl, ha, hb, line_eq (by rw [ra.length, rb.length]; exact hl), fun p hp => k _ _ (same_upd hp) (new_list (s1.trans s2) (ra.append rb) t f hp)⟩
    · cases e
  · cases e
def gCatT : G2 := fun x y => match x.d, y.d with
  | .tup xs, .tup ys => if xs.length + ys.length ≤ 16777216 then some (nrm ⟨.tup (xs ++ ys), 0, x.al ++ y.al⟩) else none
  | _, _ => none
theorem ov_catT : OpV X Cl (rCatA X.K) gCatT := by
  intro Hs H1 H2 Fs x y rx ry rr Q s1 s2 w1 w2 e k
  unfold gCatT at e
  split at e
  · rename_i xs ys e1 e2
    split at e
    · rename_i hl
      cases e
      obtain ⟨F, r1, r2, t, f⟩ := two_reps s1 w1 w2
      rw [e1] at r1
      rw [e2] at r2
      obtain ⟨a, us, rfl, ha, ra⟩ := r1.tup_of
      obtain ⟨b, vs, rfl, hb, rb⟩ := r2.tup_of
      refine ⟨a, b, us, vs, rfl, rfl, ha, hb, line_eq (by rw [ra.length, rb.length]; exact hl), fun z => ?_, fun z z2 => ?_, fun _ _ p hp => k _ _ (same_upd hp) (new_tup (ra.append rb) t f hp)⟩
      · subst z
        cases ra
        exact k _ _ (Same.refl _) (.nrm ⟨F, [], .tup hb rb, t, f, .zero, fun _ z => by cases z⟩)
      · subst z2
        cases rb
        refine k _ _ (Same.refl _) (.nrm ⟨F, [], .tup ha ?_, t, f, .zero, fun _ z => by cases z⟩)
        rw [List.append_nil]; exact ra
    · cases e
  · cases e
def gCatS : G2 := fun x y => match x.d, y.d with
  | .str xs, .str ys => if xs.length + ys.length ≤ 16777216 then some ⟨.str (xs ++ ys), 2, []⟩ else none
  | _, _ => none
theorem ov_catS : OpV X Cl (fun x y H Q => ∃ i j, x = .str i ∧ y = .str j ∧ i.length + j.length ≤ sizeLine ∧ Q (.str (i ++ j)) H) gCatS := by
  intro Hs H1 H2 Fs x y rx ry rr Q s1 s2 w1 w2 e k
  unfold gCatS at e
  split at e
  · rename_i xs ys e1 e2
    split at e
    · rename_i hl
      cases e
      exact ⟨xs, ys, val_str w1 e1, val_str w2 e2, line_eq hl, k _ _ (Same.refl _) (.pureV (.str _) rfl)⟩
    · cases e
  · cases e
/-- + of any of these -/
def gAdd : G2 := fun x y => match gI (fun i j => .int (i + j)) x y with
  | some z => some z
  | none => match gCat x y with
    | some z => some z
    | none => match gCatT x y with
      | some z => some z
      | none => gCatS x y
theorem ve_add {a b : Expr} {pos : Pos} {f f' : VE} (ha : VEok X Cl a f) (hb : VEok X Cl b f') : VEok X Cl (.BinOp a .Add b pos) (v2 gAdd f f') :=
  ve_op (op_add.or (op_cat.or (op_catA.or op_add_str))) (ov_add.or (ov_cat.or (ov_catT.or ov_catS))) ha hb
theorem ve_sub {a b : Expr} {pos : Pos} {f f' : VE} (ha : VEok X Cl a f) (hb : VEok X Cl b f') : VEok X Cl (.BinOp a .Sub b pos) (v2 (gI fun i j => .int (i - j)) f f') := ve_op op_sub ov_sub ha hb
theorem ve_mod {a b : Expr} {pos : Pos} {f f' : VE} (ha : VEok X Cl a f) (hb : VEok X Cl b f') : VEok X Cl (.BinOp a .Mod b pos) (v2 (gIC (fun _ j => decide (0 < j)) fun i j => .int (i % j)) f f') := ve_op op_mod ov_mod ha hb
theorem ve_fdiv {a b : Expr} {pos : Pos} {f f' : VE} (ha : VEok X Cl a f) (hb : VEok X Cl b f') : VEok X Cl (.BinOp a .FloorDiv b pos) (v2 (gIC (fun _ j => decide (0 < j) && decide (j < 1073741824)) fun i j => .int (i / j)) f f') := ve_op op_fdiv ov_fdiv ha hb
theorem ve_pow {a b : Expr} {pos : Pos} {f f' : VE} (ha : VEok X Cl a f) (hb : VEok X Cl b f') : VEok X Cl (.BinOp a .Pow b pos) (v2 (gIC (fun i j => decide (0 ≤ j) && (decide (j ≤ 1000000) && decide (i.natAbs < 2 ^ 64))) fun i j => .int (i ^ j.toNat)) f f') := ve_op op_pow ov_pow ha hb

def repD (k : Nat) (es : List D) : List D := (List.replicate k es).flatten
theorem reps_rep {K : PySem.W.Frag} {H : Hp} {F : ASet} {xs : List V} {es : List D} (h : Reps K Cl H F xs es) : ∀ k : Nat, Reps K Cl H F (List.replicate k xs).flatten (repD k es)
  | 0 => by unfold repD; simp; exact .nil
  | k + 1 => by
    unfold repD
    rw [List.replicate_succ, List.flatten_cons, List.replicate_succ, List.flatten_cons]
    exact h.append (reps_rep h k)
def gRep : G2 := fun x y => match x.d, y.d with
  | .lst xs, .int k => if (decide (-(2 ^ 63) ≤ k) && decide (k < 2 ^ 63)) && decide (xs.length * k.toNat ≤ 16777216) then some (mkL (repD k.toNat xs) x.al) else none
  | _, _ => none
theorem ov_rep : OpV X Cl rRep gRep := by
  intro Hs H1 H2 Fs x y rx ry rr Q s1 s2 w1 w2 e k
  unfold gRep at e
  split at e
  · rename_i xs n e1 e2
    split at e
    · rename_i hl
      cases e
      simp only [Bool.and_eq_true, decide_eq_true_eq] at hl
      obtain ⟨F, _, r1, t, f, _⟩ := w1
      rw [e1] at r1
      obtain ⟨a, us, rfl, ha, fa, ra⟩ := r1.lst_of
      exact ⟨a, n, us, rfl, val_int w2 e2, ha, hl.1.1, hl.1.2, line_eq (by rw [ra.length]; exact hl.2), fun p hp => k _ _ (same_upd hp) (new_list (s1.trans s2) (reps_rep ra _) t f hp)⟩
    · cases e
  · cases e
def gMul : G2 := fun x y => match gIC cMul (fun i j => .int (i * j)) x y with
  | some z => some z
  | none => gRep x y
theorem ve_mul {a b : Expr} {pos : Pos} {f f' : VE} (ha : VEok X Cl a f) (hb : VEok X Cl b f') : VEok X Cl (.BinOp a .Mult b pos) (v2 gMul f f') := ve_op (op_mul.or op_rep) (ov_mul.or ov_rep) ha hb

/-! ### comparisons -/
theorem ve_lt {a b : Expr} {pos : Pos} {f f' : VE} (ha : VEok X Cl a f) (hb : VEok X Cl b f') : VEok X Cl (.Compare a [.Lt] [b] pos) (v2 (gI fun i j => .bl (decide (i < j))) f f') := ve_cmp op_lt ov_lt ha hb (nomark _)
theorem ve_le {a b : Expr} {pos : Pos} {f f' : VE} (ha : VEok X Cl a f) (hb : VEok X Cl b f') : VEok X Cl (.Compare a [.LtE] [b] pos) (v2 (gI fun i j => .bl (decide (i ≤ j))) f f') := ve_cmp op_le ov_le ha hb (nomark _)
theorem ve_gt {a b : Expr} {pos : Pos} {f f' : VE} (ha : VEok X Cl a f) (hb : VEok X Cl b f') : VEok X Cl (.Compare a [.Gt] [b] pos) (v2 (gI fun i j => .bl (decide (j < i))) f f') := ve_cmp op_gt ov_gt ha hb (nomark _)
theorem ve_ge {a b : Expr} {pos : Pos} {f f' : VE} (ha : VEok X Cl a f) (hb : VEok X Cl b f') : VEok X Cl (.Compare a [.GtE] [b] pos) (v2 (gI fun i j => .bl (decide (j ≤ i))) f f') := ve_cmp op_ge ov_ge ha hb (nomark _)

end
/-! ### data as the library's data -/
mutual
def toPy : D → Option PyData
  | .non => some .none
  | .bl b => some (.bool b)
  | .int i => some (.int i)
  | .str x => some (.str x)
  | .lst xs => match toPyL xs with
    | some ys => some (.list ys)
    | none => none
  | .tup xs => match toPyL xs with
    | some ys => some (.tuple ys)
    | none => none
  | .dic _ => none
  | .ins _ _ => none
  | .scr _ => none
  | .exc _ _ => none
def toPyL : List D → Option (List PyData)
  | [] => some []
  | x :: xs => match toPy x with
    | some y => match toPyL xs with
      | some ys => some (y :: ys)
      | none => none
    | none => none
end
section
variable {K : PySem.W.Frag} {Cl : ClsT} {H : Hp} {F : ASet}
mutual
theorem Rep.dp : ∀ {v : V} {d : D} {p : PyData}, Rep K Cl H F v d → toPy d = some p → Dp K H v p
  | _, _, _, .non, e => by rw [toPy] at e; cases e; exact .non
  | _, _, _, .bl b, e => by rw [toPy] at e; cases e; exact .bl b
  | _, _, _, .int i, e => by rw [toPy] at e; cases e; exact .int i
  | _, _, _, .str x, e => by rw [toPy] at e; cases e; exact .str x
  | _, _, _, .tup h r, e => by
    rw [toPy] at e
    split at e
    · rename_i ys ey; cases e; exact .tup h (Reps.dp r ey)
    · cases e
  | _, _, _, .lst h _ r, e => by
    rw [toPy] at e
    split at e
    · rename_i ys ey; cases e; exact .lst (SqL.of h) (Reps.dp r ey)
    · cases e
  | _, _, _, .dic _ _ _, e => by rw [toPy] at e; cases e
  | _, _, _, .ins _ _ _ _, e => by rw [toPy] at e; cases e
  | _, _, _, .scr _ _, e => by rw [toPy] at e; cases e
  | _, _, _, .scrK _, e => by rw [toPy] at e; cases e
  | _, _, _, .exc0 _ _ _, e => by rw [toPy] at e; cases e
  | _, _, _, .exc _ _ _ _ _ _, e => by rw [toPy] at e; cases e
theorem Reps.dp : ∀ {v : List V} {d : List D} {p : List PyData}, Reps K Cl H F v d → toPyL d = some p → DpAll K H v p
  | _, _, _, .nil, e => by rw [toPyL] at e; cases e; exact .nil
  | _, _, _, .cons a b, e => by
    rw [toPyL] at e
    split at e
    · rename_i y ey
      split at e
      · rename_i ys eys
        cases e
        exact .cons (Rep.dp a ey) (Reps.dp b eys)
      · cases e
    · cases e
end
end
/-- == of data -/
def eqD (a b : D) : Option Bool := match toPy a, toPy b with
  | some x, some y => if SeqAt.shaped x && SeqAt.shaped y then some (PyData.eqv x y) else none
  | _, _ => none
section
variable {X : Cx} {Cl : ClsT}
def gEq (neg : Bool) : G2 := fun x y => match eqD x.d y.d with
  | some b => some ⟨.bl (if neg then !b else b), 2, []⟩
  | none => none
theorem eqD_ok {x y : D} {b : Bool} (e : eqD x y = some b) : ∃ p q, toPy x = some p ∧ toPy y = some q ∧ SeqAt.shaped p = true ∧ SeqAt.shaped q = true ∧ b = PyData.eqv p q := by
  unfold eqD at e
  split at e
  · rename_i p q ep eq
    split at e
    · rename_i h
      rw [Bool.and_eq_true] at h
      cases e
      exact ⟨p, q, ep, eq, h.1, h.2, rfl⟩
    · cases e
  · cases e
theorem ov_eq : OpV X Cl (rEqD X.K) (gEq false) := by
  intro Hs H1 H2 Fs x y rx ry rr Q s1 s2 w1 w2 e k
  unfold gEq at e
  split at e
  · rename_i b eb
    cases e
    obtain ⟨p, q, ep, eq, sp, sq, rfl⟩ := eqD_ok eb
    obtain ⟨F1, r1⟩ := w1.rep
    obtain ⟨F2, r2⟩ := w2.rep
    exact ⟨p, q, r1.dp ep, r2.dp eq, sp, sq, k _ _ (Same.refl _) (.pureV (.bl _) rfl)⟩
  · cases e
theorem ov_ne : OpV X Cl (rNeD X.K) (gEq true) := by
  intro Hs H1 H2 Fs x y rx ry rr Q s1 s2 w1 w2 e k
  unfold gEq at e
  split at e
  · rename_i b eb
    cases e
    obtain ⟨p, q, ep, eq, sp, sq, rfl⟩ := eqD_ok eb
    obtain ⟨F1, r1⟩ := w1.rep
    obtain ⟨F2, r2⟩ := w2.rep
    exact ⟨p, q, r1.dp ep, r2.dp eq, sp, sq, k _ _ (Same.refl _) (.pureV (.bl _) rfl)⟩
  · cases e
theorem ve_eq {a b : Expr} {pos : Pos} {f f' : VE} (hu : X.A.units + 64 < cLine) (ha : VEok X Cl a f) (hb : VEok X Cl b f') : VEok X Cl (.Compare a [.Eq] [b] pos) (v2 (gEq false) f f') := ve_cmp (op_eqD hu) ov_eq ha hb (nomark _)
theorem ve_ne {a b : Expr} {pos : Pos} {f f' : VE} (hu : X.A.units + 64 < cLine) (ha : VEok X Cl a f) (hb : VEok X Cl b f') : VEok X Cl (.Compare a [.NotEq] [b] pos) (v2 (gEq true) f f') := ve_cmp (op_neD hu) ov_ne ha hb (nomark _)
/-! in -/
def flatD : D → Bool
  | .non => true
  | .bl _ => true
  | .int _ => true
  | .str _ => true
  | _ => false
def anyEq (d : D) : List D → Option Bool
  | [] => some false
  | x :: xs => match eqD x d with
    | some true => some true
    | some false => anyEq d xs
    | none => none
/-- x in xs: the items as the library's data -/
def inD (neg : Bool) : G2 := fun x y => match y.d with
  | .lst ys => match toPy x.d, toPyL ys with
    | some p, some qs => if SeqAt.shaped p && SeqAt.shaped (.list qs) then some ⟨.bl (if neg then !(qs.any fun z => PyData.eqv z p) else (qs.any fun z => PyData.eqv z p)), 2, []⟩ else none
    | _, _ => none
  | .tup ys => match toPy x.d, toPyL ys with
    | some p, some qs => if flatD x.d && ys.all flatD then some ⟨.bl (if neg then !(qs.any fun z => PyData.eqv z p) else (qs.any fun z => PyData.eqv z p)), 2, []⟩ else none
    | _, _ => none
  | _ => none
theorem flat_eqV {K : PySem.W.Frag} {H : Hp} {F F' : ASet} {x y : V} {d e : D} {p q : PyData} (r : Rep K Cl H F x d) (s : Rep K Cl H F' y e) (fd : flatD d = true) (fe : flatD e = true) (hp : toPy d = some p) (hq : toPy e = some q) :
    flatV x = true ∧ flatV y = true ∧ eqV y x = PyData.eqv q p := by
  cases r <;> first | (exact absurd fd Bool.false_ne_true) | skip
  all_goals (cases s <;> first | (exact absurd fe Bool.false_ne_true) | skip)
  all_goals (simp only [toPy, Option.some.injEq] at hp hq; subst hp; subst hq; exact ⟨rfl, rfl, by first | rfl | simp [eqV, PyData.eqv]⟩)
theorem flat_any {K : PySem.W.Frag} {H : Hp} {F F' : ASet} {x : V} {d : D} {p : PyData} (r : Rep K Cl H F x d) (fd : flatD d = true) (hp : toPy d = some p) : ∀ {ys : List V} {es : List D} {qs : List PyData}, Reps K Cl H F' ys es → es.all flatD = true → toPyL es = some qs →
    ys.all flatV = true ∧ inV x ys = qs.any fun z => PyData.eqv z p
  | _, _, qs, .nil, _, e => by
    rw [toPyL] at e; cases e
    exact ⟨rfl, rfl⟩
  | _, _, qs, .cons a b, fe, e => by
    rw [List.all_cons, Bool.and_eq_true] at fe
    rw [toPyL] at e
    split at e
    · rename_i y ey
      split at e
      · rename_i ys eys
        cases e
        obtain ⟨h1, h2⟩ := flat_any r fd hp b fe.2 eys
        obtain ⟨g1, g2, g3⟩ := flat_eqV r a fd fe.1 hp ey
        refine ⟨by rw [List.all_cons, g2, h1]; rfl, ?_⟩
        unfold inV at h2 ⊢
        rw [List.any_cons, List.any_cons, g3, h2]
      · cases e
    · cases e
theorem flat_self {K : PySem.W.Frag} {H : Hp} {F : ASet} {x : V} {d : D} (r : Rep K Cl H F x d) (fd : flatD d = true) : flatV x = true := by
  cases r <;> first | (exact absurd fd Bool.false_ne_true) | rfl
theorem ov_in (neg : Bool) {r : R2} (hr : ∀ x y H Q, ((if neg then rNotInD X.K x y H Q else rInD X.K x y H Q) ∨ rIn X.K neg x y H Q) → r x y H Q) : OpV X Cl r (inD neg) := by
  intro Hs H1 H2 Fs x y rx ry rr Q s1 s2 w1 w2 e k
  refine hr _ _ _ _ ?_
  obtain ⟨F1, r1⟩ := w1.rep
  obtain ⟨F2, r2⟩ := w2.rep
  unfold inD at e
  split at e
  · rename_i ys ey
    split at e
    · rename_i p qs ep eqs
      split at e
      · rename_i hs
        rw [Bool.and_eq_true] at hs
        cases e
        rw [ey] at r2
        have d1 : Dp X.K H2 y (.list qs) := r2.dp (by rw [toPy, eqs])
        have fin : Q (.bl (if neg = true then !(qs.any fun z => PyData.eqv z p) else (qs.any fun z => PyData.eqv z p))) H2 := k _ _ (Same.refl _) (.pureV (.bl _) rfl)
        left
        cases neg with
        | true => exact ⟨p, qs, r1.dp ep, d1, hs.1, hs.2, fin⟩
        | false => exact ⟨p, qs, r1.dp ep, d1, hs.1, hs.2, fin⟩
      · cases e
    · cases e
  · rename_i ys ey
    split at e
    · rename_i p qs ep eqs
      split at e
      · rename_i hs
        rw [Bool.and_eq_true] at hs
        cases e
        rw [ey] at r2
        obtain ⟨a, us, rfl, ha, ra⟩ := r2.tup_of
        obtain ⟨h1, h2⟩ := flat_any r1 hs.1 ep ra hs.2 eqs
        refine .inr ⟨a, us, rfl, .inr ha, flat_self r1 hs.1, h1, ?_⟩
        rw [h2]
        exact k _ _ (Same.refl _) (.pureV (.bl _) rfl)
      · cases e
    · cases e
  · cases e
theorem ve_in {a b : Expr} {pos : Pos} {f f' : VE} (hu : X.A.units + 65 < cLine) (ha : VEok X Cl a f) (hb : VEok X Cl b f') (hm : behindInMarks .In b = false := by rfl) : VEok X Cl (.Compare a [.In] [b] pos) (v2 (inD false) f f') :=
  ve_cmp ((op_inD hu).or op_in_seq) (ov_in false fun _ _ _ _ h => h) ha hb hm
theorem ve_notin {a b : Expr} {pos : Pos} {f f' : VE} (hu : X.A.units + 65 < cLine) (ha : VEok X Cl a f) (hb : VEok X Cl b f') (hm : behindInMarks .NotIn b = false := by rfl) : VEok X Cl (.Compare a [.NotIn] [b] pos) (v2 (inD true) f f') :=
  ve_cmp ((op_notInD hu).or op_notIn_seq) (ov_in true fun _ _ _ _ h => h) ha hb hm
end
end VL

namespace VL
open PySem PySem.Spec L2

section
variable {X : Cx} {Cl : ClsT}
/-! ### one value, then something -/
def v1 (g : Rv → Option Rv) (f : VE) : VE := fun env => match f env with
  | some x => g x
  | none => none
/-- is None, is not None -/
def gIsN (neg : Bool) : Rv → Option Rv := fun x => match x.d with
  | .non => some ⟨.bl (!neg), 2, []⟩
  | _ => some ⟨.bl neg, 2, []⟩
theorem isN_val {K : PySem.W.Frag} {Hs H : Hp} {Fs : Nat → ASet} {v : V} {r : Rv} (w : ValOk K Cl Hs H Fs v r) : decide (v = .non) = (match r.d with | .non => true | _ => false) := by
  obtain ⟨F, h⟩ := w.rep
  cases hd : r.d <;> rw [hd] at h <;> cases h <;> rfl
theorem ve_isN {a : Expr} {pos pos' : Pos} {j : Nat} {f : VE} (ha : VEok X Cl a f) : VEok X Cl (.Compare a [.Is] [.Constant .none j pos'] pos) (v1 (gIsN false) f) := by
  obtain ⟨ta, pa, qa⟩ := ha
  refine ⟨_, pe_cmp (pc_isN pa) rfl, fun H0 G σ H env Fs ow rr Q S e k => ?_⟩
  unfold v1 at e
  split at e
  · rename_i x ex
    refine qa _ _ _ _ _ _ _ _ _ S ex fun v H1 s1 w1 => ?_
    have h := isN_val w1
    unfold gIsN at e
    cases hd : x.d <;> rw [hd] at e h <;> dsimp only at e h <;> cases e <;> rw [h] <;> exact k _ _ s1 (.pureV (.bl _) rfl)
  · cases e
theorem ve_notN {a : Expr} {pos pos' : Pos} {j : Nat} {f : VE} (ha : VEok X Cl a f) : VEok X Cl (.Compare a [.IsNot] [.Constant .none j pos'] pos) (v1 (gIsN true) f) := by
  obtain ⟨ta, pa, qa⟩ := ha
  refine ⟨_, pe_cmp (pc_notN pa) rfl, fun H0 G σ H env Fs ow rr Q S e k => ?_⟩
  unfold v1 at e
  split at e
  · rename_i x ex
    refine qa _ _ _ _ _ _ _ _ _ S ex fun v H1 s1 w1 => ?_
    have h := isN_val w1
    unfold gIsN at e
    cases hd : x.d <;> rw [hd] at e h <;> dsimp only at e h <;> cases e <;> rw [h] <;> exact k _ _ s1 (.pureV (.bl _) rfl)
  · cases e

/-! ### and, or, not; conditional expressions; tests -/
def vAnd (f g : VE) : VE := fun env => match f env with
  | some x => match x.d with
    | .bl true => g env
    | .bl false => some ⟨.bl false, 2, []⟩
    | _ => none
  | none => none
def vOr (f g : VE) : VE := fun env => match f env with
  | some x => match x.d with
    | .bl true => some ⟨.bl true, 2, []⟩
    | .bl false => g env
    | _ => none
  | none => none
theorem ve_one {a : Expr} {op : BoolOp} {pos : Pos} {f : VE} (h : VEok X Cl a f) : VEok X Cl (.BoolOp op [a] pos) f := let ⟨t, p, q⟩ := h; ⟨_, pe_one p, q⟩
theorem ve_and {a b : Expr} {rest : List Expr} {pos : Pos} {f g : VE} (ha : VEok X Cl a f) (hb : VEok X Cl (.BoolOp .And (b :: rest) pos) g) : VEok X Cl (.BoolOp .And (a :: b :: rest) pos) (vAnd f g) := by
  obtain ⟨ta, pa, qa⟩ := ha
  obtain ⟨tb, pb, qb⟩ := hb
  refine ⟨_, pe_and pa pb, fun H0 G σ H env Fs ow rr Q S e k => ?_⟩
  unfold vAnd at e
  split at e
  · rename_i x ex
    refine qa _ _ _ _ _ _ _ _ _ S ex fun v H1 s1 w1 => ?_
    split at e
    · rename_i hd
      exact ⟨true, val_bl w1 hd, iteT (qb _ _ _ _ _ _ _ _ _ (S.go s1) e fun v H2 s2 w2 => k v H2 (s1.trans s2) (w2.from s1))⟩
    · rename_i hd
      cases e
      exact ⟨false, val_bl w1 hd, iteF (k _ _ s1 (.pureV (.bl _) rfl))⟩
    · cases e
  · cases e
theorem ve_or {a b : Expr} {rest : List Expr} {pos : Pos} {f g : VE} (ha : VEok X Cl a f) (hb : VEok X Cl (.BoolOp .Or (b :: rest) pos) g) : VEok X Cl (.BoolOp .Or (a :: b :: rest) pos) (vOr f g) := by
  obtain ⟨ta, pa, qa⟩ := ha
  obtain ⟨tb, pb, qb⟩ := hb
  refine ⟨_, pe_or pa pb, fun H0 G σ H env Fs ow rr Q S e k => ?_⟩
  unfold vOr at e
  split at e
  · rename_i x ex
    refine qa _ _ _ _ _ _ _ _ _ S ex fun v H1 s1 w1 => ?_
    split at e
    · rename_i hd
      cases e
      exact ⟨true, val_bl w1 hd, iteT (k _ _ s1 (.pureV (.bl _) rfl))⟩
    · rename_i hd
      exact ⟨false, val_bl w1 hd, iteF (qb _ _ _ _ _ _ _ _ _ (S.go s1) e fun v H2 s2 w2 => k v H2 (s1.trans s2) (w2.from s1))⟩
    · cases e
  · cases e
/-- the truth of a datum -/
def truD : D → Option Bool
  | .non => some false
  | .bl b => some b
  | .int i => some (i != 0)
  | .lst xs => some (!xs.isEmpty)
  | .tup xs => some (!xs.isEmpty)
  | _ => none
def tV (f : VE) : VT := fun env => match f env with
  | some x => truD x.d
  | none => none
theorem reps_empty {K : PySem.W.Frag} {H : Hp} {F : ASet} {xs : List V} {ds : List D} (r : Reps K Cl H F xs ds) : (!ds.isEmpty) = !xs.isEmpty := by cases r <;> rfl
theorem truV_of {K : PySem.W.Frag} {Hs H : Hp} {Fs : Nat → ASet} {v : V} {r : Rv} {b : Bool} (w : ValOk K Cl Hs H Fs v r) (e : truD r.d = some b) : TruV K v H b := by
  obtain ⟨F, h⟩ := w.rep
  cases hd : r.d <;> rw [hd] at h e <;> first | (cases e; done) | skip
  all_goals first | (rw [truD] at e; cases e) | skip
  · cases h; rfl
  · cases h; rfl
  · cases h; rfl
  · obtain ⟨a, xs, rfl, ha, _, ra⟩ := h.lst_of
    exact .inl ⟨xs, SqL.of ha, reps_empty ra⟩
  · obtain ⟨a, xs, rfl, ha, ra⟩ := h.tup_of
    exact .inr (.inl ⟨xs, ha, reps_empty ra⟩)
theorem vt_val {e : Expr} {f : VE} (h : VEok X Cl e f) (he : ∀ whole, isTrue e X.env whole = (do let v ← whole; standAt e.pos; holding [v] (truthy v)) := by intro _; rfl) : VTok X Cl e (tV f) := by
  obtain ⟨t, p, q⟩ := h
  refine ⟨_, pt_truth p he, fun H0 G σ H env Fs ow b Q S e k => ?_⟩
  unfold tV at e
  split at e
  · rename_i x ex
    exact q _ _ _ _ _ _ _ _ _ S ex fun v H1 s1 w1 => ⟨b, truV_of w1 e, k H1 s1⟩
  · cases e
/-- a comparison as a test -/
def tB_ (f : VE) : VT := fun env => match f env with
  | some x => match x.d with
    | .bl b => some b
    | _ => none
  | none => none
theorem vt_cmpR {a b : Expr} {op : CmpOp} {pos : Pos} {r : R2} {g : G2} {f f' : VE} (ho : OpR X (compareOp op) r) (hg : OpV X Cl r g) (ha : VEok X Cl a f) (hb : VEok X Cl b f') (hm : behindInMarks op b = false) : VTok X Cl (.Compare a [op] [b] pos) (tB_ (v2 g f f')) := by
  obtain ⟨ta, pa, qa⟩ := ha
  obtain ⟨tb, pb, qb⟩ := hb
  refine ⟨_, pt_cmpR ho pa pb hm, fun H0 G σ H env Fs ow rr Q S e k => ?_⟩
  unfold tB_ at e
  split at e
  · rename_i x ex
    split at e
    · rename_i b hd
      cases e
      refine op2 hg S qa qb ex fun v H1 s1 w1 => ⟨rr, val_bl w1 hd, k H1 s1⟩
    · cases e
  · cases e
theorem vt_lt {a b : Expr} {pos : Pos} {f f' : VE} (ha : VEok X Cl a f) (hb : VEok X Cl b f') : VTok X Cl (.Compare a [.Lt] [b] pos) (tB_ (v2 (gI fun i j => .bl (decide (i < j))) f f')) := vt_cmpR op_lt ov_lt ha hb (nomark _)
theorem vt_le {a b : Expr} {pos : Pos} {f f' : VE} (ha : VEok X Cl a f) (hb : VEok X Cl b f') : VTok X Cl (.Compare a [.LtE] [b] pos) (tB_ (v2 (gI fun i j => .bl (decide (i ≤ j))) f f')) := vt_cmpR op_le ov_le ha hb (nomark _)
theorem vt_gt {a b : Expr} {pos : Pos} {f f' : VE} (ha : VEok X Cl a f) (hb : VEok X Cl b f') : VTok X Cl (.Compare a [.Gt] [b] pos) (tB_ (v2 (gI fun i j => .bl (decide (j < i))) f f')) := vt_cmpR op_gt ov_gt ha hb (nomark _)
theorem vt_ge {a b : Expr} {pos : Pos} {f f' : VE} (ha : VEok X Cl a f) (hb : VEok X Cl b f') : VTok X Cl (.Compare a [.GtE] [b] pos) (tB_ (v2 (gI fun i j => .bl (decide (j ≤ i))) f f')) := vt_cmpR op_ge ov_ge ha hb (nomark _)
theorem vt_eq {a b : Expr} {pos : Pos} {f f' : VE} (hu : X.A.units + 64 < cLine) (ha : VEok X Cl a f) (hb : VEok X Cl b f') : VTok X Cl (.Compare a [.Eq] [b] pos) (tB_ (v2 (gEq false) f f')) := vt_cmpR (op_eqD hu) ov_eq ha hb (nomark _)
theorem vt_ne {a b : Expr} {pos : Pos} {f f' : VE} (hu : X.A.units + 64 < cLine) (ha : VEok X Cl a f) (hb : VEok X Cl b f') : VTok X Cl (.Compare a [.NotEq] [b] pos) (tB_ (v2 (gEq true) f f')) := vt_cmpR (op_neD hu) ov_ne ha hb (nomark _)
theorem vt_in {a b : Expr} {pos : Pos} {f f' : VE} (hu : X.A.units + 65 < cLine) (ha : VEok X Cl a f) (hb : VEok X Cl b f') (hm : behindInMarks .In b = false := by rfl) : VTok X Cl (.Compare a [.In] [b] pos) (tB_ (v2 (inD false) f f')) :=
  vt_cmpR ((op_inD hu).or op_in_seq) (ov_in false fun _ _ _ _ h => h) ha hb hm
theorem vt_notin {a b : Expr} {pos : Pos} {f f' : VE} (hu : X.A.units + 65 < cLine) (ha : VEok X Cl a f) (hb : VEok X Cl b f') (hm : behindInMarks .NotIn b = false := by rfl) : VTok X Cl (.Compare a [.NotIn] [b] pos) (tB_ (v2 (inD true) f f')) :=
  vt_cmpR ((op_notInD hu).or op_notIn_seq) (ov_in true fun _ _ _ _ h => h) ha hb hm
/-- a bool-valued expression of a form whose test asks its value's truth -/
theorem vt_bool {e : Expr} {f : VE} (h : VEok X Cl e f) (hp : ∀ t, PE X e t → PT X e (tB t)) : VTok X Cl e (tB_ f) := by
  obtain ⟨t, p, q⟩ := h
  refine ⟨_, hp t p, fun H0 G σ H env Fs ow b Q S e k => ?_⟩
  unfold tB_ at e
  split at e
  · rename_i x ex
    split at e
    · rename_i b hd
      cases e
      exact q _ _ _ _ _ _ _ _ _ S ex fun v H1 s1 w1 => ⟨_, val_bl w1 hd, k H1 s1⟩
    · cases e
  · cases e
theorem vt_isN {a : Expr} {pos pos' : Pos} {j : Nat} {f : VE} (ha : VEok X Cl a f) : VTok X Cl (.Compare a [.Is] [.Constant .none j pos'] pos) (tB_ (v1 (gIsN false) f)) := by
  obtain ⟨ta, pa, qa⟩ := ha
  refine ⟨_, pt_cmp (pc_isN pa) rfl, fun H0 G σ H env Fs ow rr Q S e k => ?_⟩
  unfold tB_ v1 at e
  cases ex : f env with
  | none => rw [ex] at e; cases e
  | some x =>
    rw [ex] at e
    dsimp only at e
    refine qa _ _ _ _ _ _ _ _ _ S ex fun v H1 s1 w1 => ⟨_, rfl, ?_⟩
    have h := isN_val w1
    unfold gIsN at e
    cases hd : x.d <;> rw [hd] at e h <;> dsimp only at e h <;> cases e <;> rw [h] <;> exact k H1 s1
theorem vt_notN {a : Expr} {pos pos' : Pos} {j : Nat} {f : VE} (ha : VEok X Cl a f) : VTok X Cl (.Compare a [.IsNot] [.Constant .none j pos'] pos) (tB_ (v1 (gIsN true) f)) := by
  obtain ⟨ta, pa, qa⟩ := ha
  refine ⟨_, pt_cmp (pc_notN pa) rfl, fun H0 G σ H env Fs ow rr Q S e k => ?_⟩
  unfold tB_ v1 at e
  cases ex : f env with
  | none => rw [ex] at e; cases e
  | some x =>
    rw [ex] at e
    dsimp only at e
    refine qa _ _ _ _ _ _ _ _ _ S ex fun v H1 s1 w1 => ⟨_, rfl, ?_⟩
    have h := isN_val w1
    unfold gIsN at e
    cases hd : x.d <;> rw [hd] at e h <;> dsimp only at e h <;> cases e <;> rw [h] <;> exact k H1 s1
def tNot_ (f : VT) : VT := fun env => match f env with
  | some b => some (!b)
  | none => none
theorem vt_not {a : Expr} {pos : Pos} {f : VT} (h : VTok X Cl a f) : VTok X Cl (.UnaryOp .Not a pos) (tNot_ f) := by
  obtain ⟨t, p, q⟩ := h
  refine ⟨_, pt_not p, fun H0 G σ H env Fs ow b Q S e k => ?_⟩
  unfold tNot_ at e
  split at e
  · rename_i x ex
    cases e
    exact q _ _ _ _ _ _ _ _ _ S ex fun H1 s1 => k H1 s1
  · cases e
def tAnd_ (f g : VT) : VT := fun env => match f env with
  | some true => g env
  | some false => some false
  | none => none
def tOr_ (f g : VT) : VT := fun env => match f env with
  | some true => some true
  | some false => g env
  | none => none
theorem vw_and1 {a : Expr} {pos : Pos} {f : VT} (h : VTok X Cl a f) : VWok X Cl (.BoolOp .And [a] pos) f := let ⟨t, p, q⟩ := h; ⟨_, pw_and1 p, q⟩
theorem vw_or1 {a : Expr} {pos : Pos} {f : VT} (h : VTok X Cl a f) : VWok X Cl (.BoolOp .Or [a] pos) f := let ⟨t, p, q⟩ := h; ⟨_, pw_or1 p, q⟩
theorem vw_and {a b : Expr} {rest : List Expr} {pos : Pos} {f g : VT} (ha : VTok X Cl a f) (hb : VWok X Cl (.BoolOp .And (b :: rest) pos) g) : VWok X Cl (.BoolOp .And (a :: b :: rest) pos) (tAnd_ f g) := by
  obtain ⟨ta, pa, qa⟩ := ha
  obtain ⟨tb, pb, qb⟩ := hb
  refine ⟨_, pw_and pa pb, fun H0 G σ H env Fs ow rr Q S e k => ?_⟩
  unfold tAnd_ at e
  split at e
  · rename_i ex
    exact qa _ _ _ _ _ _ _ _ _ S ex fun H1 s1 => iteT (qb _ _ _ _ _ _ _ _ _ (S.go s1) e fun H2 s2 => k H2 (s1.trans s2))
  · rename_i ex
    cases e
    exact qa _ _ _ _ _ _ _ _ _ S ex fun H1 s1 => iteF (k H1 s1)
  · cases e
theorem vw_or {a b : Expr} {rest : List Expr} {pos : Pos} {f g : VT} (ha : VTok X Cl a f) (hb : VWok X Cl (.BoolOp .Or (b :: rest) pos) g) : VWok X Cl (.BoolOp .Or (a :: b :: rest) pos) (tOr_ f g) := by
  obtain ⟨ta, pa, qa⟩ := ha
  obtain ⟨tb, pb, qb⟩ := hb
  refine ⟨_, pw_or pa pb, fun H0 G σ H env Fs ow rr Q S e k => ?_⟩
  unfold tOr_ at e
  split at e
  · rename_i ex
    cases e
    exact qa _ _ _ _ _ _ _ _ _ S ex fun H1 s1 => iteT (k H1 s1)
  · rename_i ex
    exact qa _ _ _ _ _ _ _ _ _ S ex fun H1 s1 => iteF (qb _ _ _ _ _ _ _ _ _ (S.go s1) e fun H2 s2 => k H2 (s1.trans s2))
  · cases e
theorem vt_w {e : Expr} {f : VT} (h : VWok X Cl e f) : VTok X Cl e f := let ⟨t, p, q⟩ := h; ⟨_, p.pt, q⟩
/-- not x as a value -/
def vNot (f : VE) : VE := fun env => match f env with
  | some x => match x.d with
    | .bl b => some ⟨.bl (!b), 2, []⟩
    | _ => none
  | none => none
theorem ve_not {a : Expr} {pos : Pos} {f : VE} (h : VEok X Cl a f) : VEok X Cl (.UnaryOp .Not a pos) (vNot f) := by
  obtain ⟨t, p, q⟩ := h
  refine ⟨_, pe_not p, fun H0 G σ H env Fs ow r Q S e k => ?_⟩
  unfold vNot at e
  split at e
  · rename_i x ex
    split at e
    · rename_i b hd
      cases e
      exact q _ _ _ _ _ _ _ _ _ S ex fun v H1 s1 w1 => ⟨b, val_bl w1 hd, k _ _ s1 (.pureV (.bl _) rfl)⟩
    · cases e
  · cases e
def vNeg (f : VE) : VE := fun env => match f env with
  | some x => match x.d with
    | .int i => some ⟨.int (-i), 2, []⟩
    | _ => none
  | none => none
theorem ve_neg {a : Expr} {pos : Pos} {f : VE} (h : VEok X Cl a f) : VEok X Cl (.UnaryOp .USub a pos) (vNeg f) := by
  obtain ⟨t, p, q⟩ := h
  refine ⟨_, pe_un un_neg p, fun H0 G σ H env Fs ow r Q S e k => ?_⟩
  unfold vNeg at e
  split at e
  · rename_i x ex
    split at e
    · rename_i i hd
      cases e
      exact q _ _ _ _ _ _ _ _ _ S ex fun v H1 s1 w1 => ⟨i, val_int w1 hd, k _ _ s1 (.pureV (.int _) rfl)⟩
    · cases e
  · cases e
def vIf (c : VT) (f g : VE) : VE := fun env => match c env with
  | some true => f env
  | some false => g env
  | none => none
theorem ve_if {c a b : Expr} {pos : Pos} {h : VT} {f g : VE} (hc : VTok X Cl c h) (ha : VEok X Cl a f) (hb : VEok X Cl b g) : VEok X Cl (.IfExp c a b pos) (vIf h f g) := by
  obtain ⟨tc, pc, qc⟩ := hc
  obtain ⟨ta, pa, qa⟩ := ha
  obtain ⟨tb, pb, qb⟩ := hb
  refine ⟨_, pe_ifExp pc pa pb, fun H0 G σ H env Fs ow rr Q S e k => ?_⟩
  unfold vIf at e
  split at e
  · rename_i ex
    exact qc _ _ _ _ _ _ _ _ _ S ex fun H1 s1 => iteT (qa _ _ _ _ _ _ _ _ _ (S.go s1) e fun v H2 s2 w2 => k v H2 (s1.trans s2) (w2.from s1))
  · rename_i ex
    exact qc _ _ _ _ _ _ _ _ _ S ex fun H1 s1 => iteF (qb _ _ _ _ _ _ _ _ _ (S.go s1) e fun v H2 s2 w2 => k v H2 (s1.trans s2) (w2.from s1))
  · cases e
/-- a < b < c of whole numbers -/
def vChain (g g' : G2) (f1 f2 f3 : VE) : VE := fun env => match f1 env with
  | some x => match f2 env with
    | some y => match g x y with
      | some z => match z.d with
        | .bl true => match f3 env with
          | some w => g' y w
          | none => none
        | .bl false => some ⟨.bl false, 2, []⟩
        | _ => none
      | none => none
    | none => none
  | none => none
def LtLe (op : CmpOp) : Int → Int → Bool := match op with
  | .Lt => fun i j => decide (i < j)
  | .LtE => fun i j => decide (i ≤ j)
  | _ => fun _ _ => false

/-! ### subscripts, attributes -/
def atD (x : Rv) (i : Int) : Option Rv := match x.d with
  | .lst ds => match atI ds i with
    | some d => some (nrm ⟨d, 0, x.al⟩)
    | none => none
  | .tup ds => match atI ds i with
    | some d => some (nrm ⟨d, 0, x.al⟩)
    | none => none
  | _ => none
def gIx : G2 := fun x y => match y.d with
  | .int i => atD x i
  | _ => none
theorem reps_at {K : PySem.W.Frag} {H : Hp} {F : ASet} {xs : List V} {ds : List D} {i : Int} {d : D} (r : Reps K Cl H F xs ds) (e : atI ds i = some d) : ∃ v, atI xs i = some v ∧ Rep K Cl H F v d := by
  unfold atI at e ⊢
  rw [r.length]
  cases h : ixN ds.length i with
  | none => rw [h] at e; cases e
  | some j => rw [h] at e; exact r.get e
theorem ov_ix : OpV X Cl (fun x y H Q => rIxL X.K x y H Q ∨ rIxT X.K x y H Q) gIx := by
  intro Hs H1 H2 Fs x y rx ry rr Q s1 s2 w1 w2 e k
  unfold gIx at e
  split at e
  · rename_i i ei
    unfold atD at e
    obtain ⟨F, _, r1, t, f, _⟩ := w1
    have fin : ∀ {v : V} {d : D}, Rep X.K Cl H2 F v d → ValOk X.K Cl Hs H2 Fs v (nrm ⟨d, 0, rx.al⟩) := fun h => .nrm ⟨F, [], h, t, f, .zero, fun _ z => by cases z⟩
    split at e
    · rename_i ds ed
      rw [ed] at r1
      obtain ⟨a, us, rfl, ha, _, ra⟩ := r1.lst_of
      split at e
      · rename_i d hd
        cases e
        obtain ⟨v, hv, rv⟩ := reps_at ra hd
        exact .inl ⟨a, us, i, v, rfl, val_int w2 ei, SqL.of ha, hv, k _ _ (Same.refl _) (fin rv)⟩
      · cases e
    · rename_i ds ed
      rw [ed] at r1
      obtain ⟨a, us, rfl, ha, ra⟩ := r1.tup_of
      split at e
      · rename_i d hd
        cases e
        obtain ⟨v, hv, rv⟩ := reps_at ra hd
        exact .inr ⟨a, us, i, v, rfl, val_int w2 ei, ha, hv, k _ _ (Same.refl _) (fin rv)⟩
      · cases e
    · cases e
  · cases e
theorem ve_ix {a b : Expr} {pos : Pos} {f f' : VE} (ha : VEok X Cl a f) (hb : VEok X Cl b f') (hs : PlainIx b := by exact fun _ _ => rfl) : VEok X Cl (.Subscript a b pos) (v2 gIx f f') := by
  obtain ⟨ta, pa, qa⟩ := ha
  obtain ⟨tb, pb, qb⟩ := hb
  exact ⟨_, pe_ix (ix_list.or ix_tup) pa pb hs, fun H0 G σ H env Fs ow rr Q S e k => op2 ov_ix S qa qb e k⟩

def cutD {α : Type} (xs : List α) (lo hi : Option Int) : List α := (xs.drop (HT.sIx xs.length 0 lo)).take (HT.sIx xs.length xs.length hi - HT.sIx xs.length 0 lo)
theorem cut_reps {K : PySem.W.Frag} {H : Hp} {F : ASet} {xs : List V} {ds : List D} {lo hi : Option Int} (r : Reps K Cl H F xs ds) : Reps K Cl H F (cutV xs lo hi) (cutD ds lo hi) := by
  unfold cutV cutD
  rw [r.length]
  exact (r.drop _).take _
/-- a part of a slice -/
abbrev VO := Ev → Option (Option Int)
def VOok (X : Cx) (Cl : ClsT) (e : Option Expr) (f : VO) : Prop := ∃ t, PO X e t ∧ ∀ (H0 : Hp) (G : ASet) (σ : L2.St) (H : Hp) (env : Ev) (Fs : Nat → ASet) (ow : Nat → List Addr) (o : Option Int) (Q : Option Int → Hp → Prop), StOk X.K Cl H0 G σ H env Fs ow → f env = some o →
  (∀ H', Same H H' → Q o H') → t σ H Q
theorem vo_none : VOok X Cl none (fun _ => some none) := ⟨_, po_none, fun H0 G σ H env Fs ow o Q S e k => by cases e; exact k H (Same.refl _)⟩
def vPart (f : VE) : VO := fun env => match f env with
  | some x => match x.d with
    | .int i => some (some i)
    | _ => none
  | none => none
theorem vo_some {e : Expr} {f : VE} (h : VEok X Cl e f) : VOok X Cl (some e) (vPart f) := by
  obtain ⟨t, p, q⟩ := h
  refine ⟨_, po_some p, fun H0 G σ H env Fs ow o Q S e k => ?_⟩
  unfold vPart at e
  split at e
  · rename_i x ex
    split at e
    · rename_i i hd
      cases e
      exact q _ _ _ _ _ _ _ _ _ S ex fun v H1 s1 w1 => ⟨i, val_int w1 hd, k _ s1⟩
    · cases e
  · cases e
def vSlice (f : VE) (lo hi : VO) : VE := fun env => match f env with
  | some x => match lo env with
    | some l => match hi env with
      | some h => match x.d with
        | .lst ds => some (mkL (cutD ds l h) x.al)
        | .tup ds => some (nrm ⟨.tup (cutD ds l h), 0, x.al⟩)
        | .scr ns => some ⟨.lst ((cutD ns l h).map D.int), 2, []⟩
        | _ => none
      | none => none
    | none => none
  | none => none
theorem cut_map (ns : List Int) (lo hi : Option Int) : cutV (ns.map V.int) lo hi = (cutD ns lo hi).map V.int := by
  unfold cutV cutD
  rw [List.length_map, ← List.map_drop, ← List.map_take]
end
end VL

namespace VL
open PySem PySem.Spec L2

section
variable {X : Cx} {Cl : ClsT}
theorem ve_chain {a b c : Expr} {op op' : CmpOp} {pos : Pos} {r r' : R2} {g g' : G2} {f1 f2 f3 : VE} (ho : OpR X (compareOp op) r) (ho' : OpR X (compareOp op') r') (hg : OpV X Cl r g) (hg' : OpV X Cl r' g') (ha : VEok X Cl a f1) (hb : VEok X Cl b f2) (hc : VEok X Cl c f3)
    (hm : lastMarks [op, op'] [b, c] = false := by with_unfolding_all rfl) : VEok X Cl (.Compare a [op, op'] [b, c] pos) (vChain g g' f1 f2 f3) := by
  obtain ⟨ta, pa, qa⟩ := ha
  obtain ⟨tb, pb, qb⟩ := hb
  obtain ⟨tc, pc, qc⟩ := hc
  refine ⟨_, pe_chain ho ho' pa pb pc hm, fun H0 G σ H env Fs ow rr Q S e k => ?_⟩
  unfold vChain at e
  split at e <;> (first | (cases e; done) | skip)
  rename_i x ex
  split at e <;> (first | (cases e; done) | skip)
  rename_i y ey
  split at e <;> (first | (cases e; done) | skip)
  rename_i z ez
  refine qa _ _ _ _ _ _ _ _ _ S ex fun v H1 s1 w1 => qb _ _ _ _ _ _ _ _ _ (S.go s1) ey fun u H2 s2 w2 => ?_
  refine hg H H1 H2 Fs v u x y z _ s1 s2 (w1.same s2) w2 ez fun zv H3 s3 w3 => ?_
  split at e
  · rename_i hz
    split at e <;> (first | (cases e; done) | skip)
    rename_i w ew
    refine ⟨true, val_bl w3 hz, iteT ?_⟩
    refine qc _ _ _ _ _ _ _ _ _ (S.go ((s1.trans s2).trans s3)) ew fun wv H4 s4 w4 => ?_
    exact hg' H1 H3 H4 Fs u wv y w rr Q (s2.trans s3) s4 ((w2.same s3).same s4) w4 e fun zz H5 s5 w5 => k zz H5 (((s1.trans s2).trans (s3.trans s4)).trans s5) (w5.from s1)
  · rename_i hz
    cases e
    exact ⟨false, val_bl w3 hz, iteF (k _ _ ((s1.trans s2).trans s3) (.pureV (.bl _) rfl))⟩
  · cases e
theorem ve_le_lt {a b c : Expr} {pos : Pos} {f1 f2 f3 : VE} (ha : VEok X Cl a f1) (hb : VEok X Cl b f2) (hc : VEok X Cl c f3) (hm : lastMarks [.LtE, .Lt] [b, c] = false := by with_unfolding_all rfl) : VEok X Cl (.Compare a [.LtE, .Lt] [b, c] pos) (vChain (gI fun i j => .bl (decide (i ≤ j))) (gI fun i j => .bl (decide (i < j))) f1 f2 f3) := ve_chain op_le op_lt ov_le ov_lt ha hb hc hm
theorem ve_le_le {a b c : Expr} {pos : Pos} {f1 f2 f3 : VE} (ha : VEok X Cl a f1) (hb : VEok X Cl b f2) (hc : VEok X Cl c f3) (hm : lastMarks [.LtE, .LtE] [b, c] = false := by with_unfolding_all rfl) : VEok X Cl (.Compare a [.LtE, .LtE] [b, c] pos) (vChain (gI fun i j => .bl (decide (i ≤ j))) (gI fun i j => .bl (decide (i ≤ j))) f1 f2 f3) := ve_chain op_le op_le ov_le ov_le ha hb hc hm
theorem ve_lt_lt {a b c : Expr} {pos : Pos} {f1 f2 f3 : VE} (ha : VEok X Cl a f1) (hb : VEok X Cl b f2) (hc : VEok X Cl c f3) (hm : lastMarks [.Lt, .Lt] [b, c] = false := by with_unfolding_all rfl) : VEok X Cl (.Compare a [.Lt, .Lt] [b, c] pos) (vChain (gI fun i j => .bl (decide (i < j))) (gI fun i j => .bl (decide (i < j))) f1 f2 f3) := ve_chain op_lt op_lt ov_lt ov_lt ha hb hc hm
/-- the chain as a test -/
theorem vt_chain {a b c : Expr} {op op' : CmpOp} {pos : Pos} {r r' : R2} {g g' : G2} {f1 f2 f3 : VE} (ho : OpR X (compareOp op) r) (ho' : OpR X (compareOp op') r') (hg : OpV X Cl r g) (hg' : OpV X Cl r' g') (ha : VEok X Cl a f1) (hb : VEok X Cl b f2) (hc : VEok X Cl c f3)
    (hm : lastMarks [op, op'] [b, c] = false := by with_unfolding_all rfl) : VTok X Cl (.Compare a [op, op'] [b, c] pos) (tB_ (vChain g g' f1 f2 f3)) := by
  obtain ⟨ta, pa, qa⟩ := ha
  obtain ⟨tb, pb, qb⟩ := hb
  obtain ⟨tc, pc, qc⟩ := hc
  refine ⟨_, pt_chain ho ho' pa pb pc hm, fun H0 G σ H env Fs ow rb Q S e k => ?_⟩
  unfold tB_ vChain at e
  cases ex : f1 env with
  | none => rw [ex] at e; cases e
  | some x =>
  rw [ex] at e
  dsimp only at e
  cases ey : f2 env with
  | none => rw [ey] at e; cases e
  | some y =>
  rw [ey] at e
  dsimp only at e
  cases ez : g x y with
  | none => rw [ez] at e; cases e
  | some z =>
  rw [ez] at e
  dsimp only at e
  refine qa _ _ _ _ _ _ _ _ _ S ex fun v H1 s1 w1 => qb _ _ _ _ _ _ _ _ _ (S.go s1) ey fun u H2 s2 w2 => ?_
  refine hg H H1 H2 Fs v u x y z _ s1 s2 (w1.same s2) w2 ez fun zv H3 s3 w3 => ?_
  cases hz : z.d with
  | bl zb =>
    rw [hz] at e
    cases zb with
    | true =>
      dsimp only at e
      cases ew : f3 env with
      | none => rw [ew] at e; cases e
      | some w =>
        rw [ew] at e
        dsimp only at e
        cases er : g' y w with
        | none => rw [er] at e; cases e
        | some rr =>
          rw [er] at e
          dsimp only at e
          cases hr : rr.d with
          | bl q =>
            rw [hr] at e
            cases e
            refine ⟨true, val_bl w3 hz, iteT ?_⟩
            refine qc _ _ _ _ _ _ _ _ _ (S.go ((s1.trans s2).trans s3)) ew fun wv H4 s4 w4 => ?_
            exact hg' H1 H3 H4 Fs u wv y w rr _ (s2.trans s3) s4 ((w2.same s3).same s4) w4 er fun zz H5 s5 w5 => ⟨rb, val_bl w5 hr, k H5 (((s1.trans s2).trans (s3.trans s4)).trans s5)⟩
          | _ => rw [hr] at e; cases e
    | false =>
      dsimp only at e
      cases e
      exact ⟨false, val_bl w3 hz, iteF ⟨false, rfl, k _ ((s1.trans s2).trans s3)⟩⟩
  | _ => rw [hz] at e; cases e
theorem vt_le_lt {a b c : Expr} {pos : Pos} {f1 f2 f3 : VE} (ha : VEok X Cl a f1) (hb : VEok X Cl b f2) (hc : VEok X Cl c f3) (hm : lastMarks [.LtE, .Lt] [b, c] = false := by with_unfolding_all rfl) : VTok X Cl (.Compare a [.LtE, .Lt] [b, c] pos) (tB_ (vChain (gI fun i j => .bl (decide (i ≤ j))) (gI fun i j => .bl (decide (i < j))) f1 f2 f3)) := vt_chain op_le op_lt ov_le ov_lt ha hb hc hm
theorem vt_le_le {a b c : Expr} {pos : Pos} {f1 f2 f3 : VE} (ha : VEok X Cl a f1) (hb : VEok X Cl b f2) (hc : VEok X Cl c f3) (hm : lastMarks [.LtE, .LtE] [b, c] = false := by with_unfolding_all rfl) : VTok X Cl (.Compare a [.LtE, .LtE] [b, c] pos) (tB_ (vChain (gI fun i j => .bl (decide (i ≤ j))) (gI fun i j => .bl (decide (i ≤ j))) f1 f2 f3)) := vt_chain op_le op_le ov_le ov_le ha hb hc hm
theorem vt_lt_lt {a b c : Expr} {pos : Pos} {f1 f2 f3 : VE} (ha : VEok X Cl a f1) (hb : VEok X Cl b f2) (hc : VEok X Cl c f3) (hm : lastMarks [.Lt, .Lt] [b, c] = false := by with_unfolding_all rfl) : VTok X Cl (.Compare a [.Lt, .Lt] [b, c] pos) (tB_ (vChain (gI fun i j => .bl (decide (i < j))) (gI fun i j => .bl (decide (i < j))) f1 f2 f3)) := vt_chain op_lt op_lt ov_lt ov_lt ha hb hc hm

/-! ### slices -/
theorem scr_of {K : PySem.W.Frag} {H : Hp} {F : ASet} {v : V} {ns : List Int} (h : Rep K Cl H F v (.scr ns)) : ∃ a, v = .ref a ∧ SqL K H a (ns.map V.int) := by
  cases h with
  | scr h f => exact ⟨_, rfl, h⟩
  | scrK h => exact ⟨_, rfl, h _⟩
theorem reps_ints {K : PySem.W.Frag} {H : Hp} {F : ASet} : ∀ ns : List Int, Reps K Cl H F (ns.map V.int) (ns.map D.int)
  | [] => .nil
  | n :: ns => .cons (.int n) (reps_ints ns)
theorem noMut_ints : ∀ ns : List Int, noMutL (ns.map D.int) = true
  | [] => rfl
  | n :: ns => by rw [List.map_cons, noMutL, noMut, noMut_ints ns]; rfl
theorem ve_slice {e : Expr} {lo hi : Option Expr} {p2 pos : Pos} {f : VE} {fl fh : VO} (he : VEok X Cl e f) (hl : VOok X Cl lo fl) (hh : VOok X Cl hi fh) : VEok X Cl (.Subscript e (.Slice lo hi none p2) pos) (vSlice f fl fh) := by
  obtain ⟨te, pe, qe⟩ := he
  obtain ⟨tl, pl, ql⟩ := hl
  obtain ⟨th, ph, qh⟩ := hh
  refine ⟨_, pe_slice (sl_list.or sl_tupA) pe pl ph, fun H0 G σ H env Fs ow rr Q S e k => ?_⟩
  unfold vSlice at e
  split at e <;> (first | (cases e; done) | skip)
  rename_i x ex
  split at e <;> (first | (cases e; done) | skip)
  rename_i l el
  split at e <;> (first | (cases e; done) | skip)
  rename_i h eh
  refine qe _ _ _ _ _ _ _ _ _ S ex fun v H1 s1 w1 => ql _ _ _ _ _ _ _ _ _ (S.go s1) el fun H2 s2 => qh _ _ _ _ _ _ _ _ _ (S.go (s1.trans s2)) eh fun H3 s3 => ?_
  have w3 := (w1.same s2).same s3
  have s : Same H H3 := (s1.trans s2).trans s3
  obtain ⟨F, _, r1, t, f, _⟩ := w3
  split at e
  · rename_i ds ed
    cases e
    rw [ed] at r1
    obtain ⟨a, us, rfl, ha, _, ra⟩ := r1.lst_of
    exact .inl ⟨a, us, rfl, SqL.of ha, fun p hp => k _ _ (s.trans (same_upd hp)) (new_list s (cut_reps ra) t f hp)⟩
  · rename_i ds ed
    cases e
    rw [ed] at r1
    obtain ⟨a, us, rfl, ha, ra⟩ := r1.tup_of
    refine .inr ⟨a, us, rfl, ha, fun z => ?_, fun z p hp => k _ _ (s.trans (same_upd hp)) (new_tup (cut_reps ra) t f hp)⟩
    have e1 : cutV us l h = us := by
      unfold cutV
      rw [z.1, z.2]
      simp
    have c := cut_reps (lo := l) (hi := h) ra
    rw [e1] at c
    exact k _ _ s (.nrm ⟨F, [], .tup ha c, t, f, .zero, fun _ z => by cases z⟩)
  · rename_i ns ed
    cases e
    rw [ed] at r1
    obtain ⟨a, rfl, ha⟩ := scr_of r1
    refine .inl ⟨a, _, rfl, ha, fun p hp => k _ _ (s.trans (same_upd hp)) ?_⟩
    rw [cut_map]
    have := new_list (Cl := Cl) (K := X.K) (Fs := Fs) (F := fun _ => False) (al := []) (Hs := H) s (reps_ints (cutD ns l h)) (fun _ f => f.elim) (fun _ f => f.elim) hp
    unfold mkL at this
    rw [if_pos (noMut_ints _)] at this
    exact this
  · cases e

/-! ### attributes -/
def lookD (f : Str) : List (Str × D) → Option D
  | [] => none
  | (k, d) :: r => if f = k then some d else lookD f r
def vFld (c : Nat) (n : Str) (f : VE) : VE := fun env => match f env with
  | some x => match x.d with
    | .ins c' fs => if c' = c then (match lookD n fs with
      | some d => some (nrm ⟨d, 0, x.al⟩)
      | none => none) else none
    | _ => none
  | none => none
theorem repF_look {K : PySem.W.Frag} {H : Hp} {F : ASet} {n : Str} : ∀ {vs : List (Str × V)} {ds : List (Str × D)} {d : D}, RepF K Cl H F vs ds → lookD n ds = some d → ∃ v, vs.lookup n = some v ∧ Rep K Cl H F v d
  | _, _, d, .nil, e => by cases e
  | _, _, d, .cons (k := k) a b, e => by
    rw [lookD] at e
    by_cases h : n = k
    · subst h
      rw [if_pos rfl] at e
      cases e
      exact ⟨_, by rw [List.lookup_cons]; simp, a⟩
    · rw [if_neg h] at e
      obtain ⟨v, h1, h2⟩ := repF_look b e
      refine ⟨v, ?_, h2⟩
      have q : (n == k) = false := by simpa using h
      rw [List.lookup_cons, q]
      exact h1
theorem ve_fld {e : Expr} {n : Str} {pos : Pos} {f : VE} {c : Nat} {C : Addr} (hC : Cl c = some C) (hk : Cls X.K C) (hn : NoAttr X.K C n) (he : VEok X Cl e f) (hb : attributeBase e n X.env (eval e X.env) = eval e X.env := by rfl) : VEok X Cl (.Attribute e n pos) (vFld c n f) := by
  obtain ⟨te, pe, qe⟩ := he
  refine ⟨_, pe_fld pe hb, fun H0 G σ H env Fs ow rr Q S e k => ?_⟩
  unfold vFld at e
  split at e <;> (first | (cases e; done) | skip)
  rename_i x ex
  refine qe _ _ _ _ _ _ _ _ _ S ex fun v H1 s1 w1 => ?_
  obtain ⟨F, _, r1, t, fr, _⟩ := w1
  split at e <;> (first | (cases e; done) | skip)
  rename_i c' fs ed
  split at e <;> (first | (cases e; done) | skip)
  rename_i ec
  subst ec
  split at e <;> (first | (cases e; done) | skip)
  rename_i d hd
  cases e
  rw [ed] at r1
  cases r1 with
  | ins h fa cc rf =>
    rw [hC] at cc
    cases cc
    obtain ⟨u, h1, h2⟩ := repF_look rf hd
    exact ⟨_, C, _, _, u, rfl, h, hk, hn, h1, k _ _ s1 (.nrm ⟨F, [], h2, t, fr, .zero, fun _ z => by cases z⟩)⟩

/-! ### calls of built-ins -/
def CallV (X : Cx) (Cl : ClsT) (r : List V → Hp → VK → Prop) (g : List Rv → Option Rv) : Prop := ∀ (Hs H : Hp) (Fs : Nat → ASet) (vs : List V) (rs : List Rv) (rr : Rv) (Q : VK), Same Hs H → ValsOk X.K Cl Hs H Fs vs rs → g rs = some rr →
  (∀ v H', Same H H' → ValOk X.K Cl Hs H' Fs v rr → Q v H') → r vs H Q
def vCall (g : List Rv → Option Rv) (a : VA) : VE := fun env => match a env with
  | some rs => g rs
  | none => none
theorem ve_callB {x : Str} {p pos : Pos} {e : Expr} {es : List Expr} {id : String} {r : List V → Hp → VK → Prop} {g : List Rv → Option Rv} {fa : VA} (hc : CallR X (.builtin id) r) (hv : CallV X Cl r g) (hm : X.mg x = none) (ha : VAok X Cl (e :: es) fa) (hb : bootBuiltins x = some (.builtin id) := by decide +kernel) (hg : Gl X x := by rfl)
    (hn : x ≠ "__name__" := by decide) (hdb : (x == ("__debug__" : Str)) = false := by decide) (he : starEach (e :: es) X.env = (false, eval e X.env) :: starEach es X.env := by rfl) (hpl : (backTo pos (starEach es X.env)).any (·.1) = false := by rfl) :
    VEok X Cl (.Call (.Name x p) (e :: es) [] pos) (vCall g fa) := by
  obtain ⟨ta, pa, qa⟩ := ha
  refine ⟨_, pe_callB hc hg hm hb pa hn hdb he hpl, fun H0 G σ H env Fs ow rr Q S e k => ?_⟩
  unfold vCall at e
  split at e <;> (first | (cases e; done) | skip)
  rename_i rs ers
  exact qa _ _ _ _ _ _ _ _ _ S ers fun vs H1 s1 w1 => hv H H1 Fs vs rs rr Q s1 w1 e fun v H2 s2 w2 => k v H2 (s1.trans s2) w2
theorem ve_callTy {x : Str} {p pos : Pos} {e : Expr} {es : List Expr} {T : String} {r : List V → Hp → VK → Prop} {g : List Rv → Option Rv} {fa : VA} (hc : CallR X (.type T) r) (hv : CallV X Cl r g) (hm : X.mg x = none) (ha : VAok X Cl (e :: es) fa) (hb : bootBuiltins x = some (.type T) := by decide +kernel) (hg : Gl X x := by rfl)
    (hn : x ≠ "__name__" := by decide) (hdb : (x == ("__debug__" : Str)) = false := by decide) (he : starEach (e :: es) X.env = (false, eval e X.env) :: starEach es X.env := by rfl) (hpl : (backTo pos (starEach es X.env)).any (·.1) = false := by rfl) :
    VEok X Cl (.Call (.Name x p) (e :: es) [] pos) (vCall g fa) := by
  obtain ⟨ta, pa, qa⟩ := ha
  refine ⟨_, pe_callTy hc hg hm hb pa hn hdb he hpl, fun H0 G σ H env Fs ow rr Q S e k => ?_⟩
  unfold vCall at e
  split at e <;> (first | (cases e; done) | skip)
  rename_i rs ers
  exact qa _ _ _ _ _ _ _ _ _ S ers fun vs H1 s1 w1 => hv H H1 Fs vs rs rr Q s1 w1 e fun v H2 s2 w2 => k v H2 (s1.trans s2) w2
/-- one argument -/
def g1 (g : Rv → Option Rv) : List Rv → Option Rv
  | [x] => g x
  | _ => none
def CallV1 (X : Cx) (Cl : ClsT) (r : List V → Hp → VK → Prop) (g : Rv → Option Rv) : Prop := ∀ (Hs H : Hp) (Fs : Nat → ASet) (v : V) (x rr : Rv) (Q : VK), Same Hs H → ValOk X.K Cl Hs H Fs v x → g x = some rr →
  (∀ v H', Same H H' → ValOk X.K Cl Hs H' Fs v rr → Q v H') → r [v] H Q
theorem CallV1.all {r : List V → Hp → VK → Prop} {g : Rv → Option Rv} (h : CallV1 X Cl r g) : CallV X Cl r (g1 g) := by
  intro Hs H Fs vs rs rr Q s w e k
  unfold g1 at e
  split at e <;> (first | (cases e; done) | skip)
  rename_i x
  cases vs with
  | nil => exact w.elim
  | cons v vs =>
    cases vs with
    | cons _ _ => obtain ⟨_, _, _, _, w⟩ := w; exact w.elim
    | nil =>
      obtain ⟨H1, s1, s2, w1, _⟩ := w
      exact h Hs H Fs v x rr Q s (w1.same s2) e k
theorem CallV.or {r r' : List V → Hp → VK → Prop} {g g' : List Rv → Option Rv} (h : CallV X Cl r g) (h' : CallV X Cl r' g') : CallV X Cl (fun xs H Q => r xs H Q ∨ r' xs H Q) (fun xs => match g xs with | some z => some z | none => g' xs) := by
  intro Hs H Fs vs rs rr Q s w e k
  dsimp only at e
  split at e
  · rename_i z ez
    cases e
    exact .inl (h Hs H Fs vs rs rr Q s w ez k)
  · exact .inr (h' Hs H Fs vs rs rr Q s w e k)
theorem CallV1.or {r r' : List V → Hp → VK → Prop} {g g' : Rv → Option Rv} (h : CallV1 X Cl r g) (h' : CallV1 X Cl r' g') : CallV1 X Cl (fun xs H Q => r xs H Q ∨ r' xs H Q) (fun xs => match g xs with | some z => some z | none => g' xs) := by
  intro Hs H Fs v x rr Q s w e k
  dsimp only at e
  split at e
  · rename_i z ez
    cases e
    exact .inl (h Hs H Fs v x rr Q s w ez k)
  · exact .inr (h' Hs H Fs v x rr Q s w e k)
/-- len -/
def gLen : Rv → Option Rv := fun x => match x.d with
  | .lst ds => some ⟨.int (ds.length : Nat), 2, []⟩
  | .tup ds => some ⟨.int (ds.length : Nat), 2, []⟩
  | .scr ns => some ⟨.int (ns.length : Nat), 2, []⟩
  | .str z => if z.length ≤ 16777216 then some ⟨.int (z.length : Nat), 2, []⟩ else none
  | _ => none
theorem cv_len : CallV1 X Cl (fun xs H Q => (∃ p ys, xs = [V.ref p] ∧ (SqL X.K H p ys ∨ SqT X.K H p ys) ∧ Q (.int ys.length) H) ∨ (∃ z : Str, xs = [.str z] ∧ z.length ≤ sizeLine ∧ Q (.int z.length) H)) gLen := by
  intro Hs H Fs v x rr Q s w e k
  unfold gLen at e
  obtain ⟨F, r1⟩ := w.rep
  split at e
  · rename_i ds ed
    cases e
    rw [ed] at r1
    obtain ⟨a, us, rfl, ha, _, ra⟩ := r1.lst_of
    refine .inl ⟨a, us, rfl, .inl (SqL.of ha), ?_⟩
    rw [ra.length]
    exact k _ _ (Same.refl _) (.pureV (.int _) rfl)
  · rename_i ds ed
    cases e
    rw [ed] at r1
    obtain ⟨a, us, rfl, ha, ra⟩ := r1.tup_of
    refine .inl ⟨a, us, rfl, .inr ha, ?_⟩
    rw [ra.length]
    exact k _ _ (Same.refl _) (.pureV (.int _) rfl)
  · rename_i ns ed
    cases e
    rw [ed] at r1
    obtain ⟨a, rfl, ha⟩ := scr_of r1
    refine .inl ⟨a, _, rfl, .inl ha, ?_⟩
    rw [List.length_map]
    exact k _ _ (Same.refl _) (.pureV (.int _) rfl)
  · rename_i z ed
    split at e <;> (first | (cases e; done) | skip)
    rename_i hl
    cases e
    rw [ed] at r1
    exact .inr ⟨z, by rw [r1.str_of], line_eq hl, k _ _ (Same.refl _) (.pureV (.int _) rfl)⟩
  · cases e
theorem ve_len {p pos : Pos} {e : Expr} {fa : VA} (hm : X.mg "len" = none) (ha : VAok X Cl [e] fa) (hg : Gl X "len" := by rfl) (he : starEach [e] X.env = (false, eval e X.env) :: starEach [] X.env := by rfl) (hpl : (backTo pos (starEach [] X.env)).any (·.1) = false := by rfl) :
    VEok X Cl (.Call (.Name "len" p) [e] [] pos) (vCall (g1 gLen) fa) := ve_callB (call_len_seq.or call_len_str) cv_len.all hm ha PySem.boot_len hg (by decide) (by decide) he hpl
def gInt : Rv → Option Rv := fun x => match x.d with
  | .int i => some ⟨.int i, 2, []⟩
  | .bl b => some ⟨.int (if b then 1 else 0), 2, []⟩
  | _ => none
theorem cv_int : CallV1 X Cl (fun xs H Q => (∃ i, xs = [V.int i] ∧ Q (.int i) H) ∨ ∃ k, xs = [V.bl k] ∧ Q (.int (if k then 1 else 0)) H) gInt := by
  intro Hs H Fs v x rr Q s w e k
  unfold gInt at e
  split at e
  · rename_i i ed
    cases e
    exact .inl ⟨i, by rw [val_int w ed], k _ _ (Same.refl _) (.pureV (.int _) rfl)⟩
  · rename_i i ed
    cases e
    exact .inr ⟨i, by rw [val_bl w ed], k _ _ (Same.refl _) (.pureV (.int _) rfl)⟩
  · cases e
def gAbs : Rv → Option Rv := fun x => match x.d with
  | .int i => some ⟨.int (if i < 0 then -i else i), 2, []⟩
  | _ => none
theorem cv_abs : CallV1 X Cl (fun xs H Q => ∃ i, xs = [V.int i] ∧ Q (.int (if i < 0 then -i else i)) H) gAbs := by
  intro Hs H Fs v x rr Q s w e k
  unfold gAbs at e
  split at e
  · rename_i i ed
    cases e
    exact ⟨i, by rw [val_int w ed], k _ _ (Same.refl _) (.pureV (.int _) rfl)⟩
  · cases e
theorem ve_intc {p pos : Pos} {e : Expr} {fa : VA} (hm : X.mg "int" = none) (ha : VAok X Cl [e] fa) (hg : Gl X "int" := by rfl) (he : starEach [e] X.env = (false, eval e X.env) :: starEach [] X.env := by rfl) (hpl : (backTo pos (starEach [] X.env)).any (·.1) = false := by rfl) :
    VEok X Cl (.Call (.Name "int" p) [e] [] pos) (vCall (g1 gInt) fa) := ve_callTy call_int1 cv_int.all hm ha (by decide +kernel) hg (by decide) (by decide) he hpl
theorem ve_abs {p pos : Pos} {e : Expr} {fa : VA} (hm : X.mg "abs" = none) (ha : VAok X Cl [e] fa) (hg : Gl X "abs" := by rfl) (he : starEach [e] X.env = (false, eval e X.env) :: starEach [] X.env := by rfl) (hpl : (backTo pos (starEach [] X.env)).any (·.1) = false := by rfl) :
    VEok X Cl (.Call (.Name "abs" p) [e] [] pos) (vCall (g1 gAbs) fa) := ve_callB call_abs cv_abs.all hm ha (by decide +kernel) hg (by decide) (by decide) he hpl
end
end VL

namespace VL
open PySem PySem.Spec L2

section
variable {X : Cx} {W : WX} {Cl : ClsT}
/-! ### blocks and small statements -/
def vSeq (f g : VS) : VS := fun env => match f env with
  | .nx e => g e
  | r => r
theorem vb_nil : VBok X W Cl [] (fun e => .nx e) := ⟨_, pss_nil, fun H0 G D σ H env Fs ow S k => k σ H Fs ow (Stp.refl _ _) S⟩
theorem vb_one {st : Stmt} {f : VS} (h : VSok X W Cl st f) : VBok X W Cl [st] f := let ⟨t, p, q⟩ := h; ⟨t, pss_one p, q⟩
theorem vb_cons {st : Stmt} {rest : List Stmt} {f g : VS} (h1 : VSok X W Cl st f) (h2 : VBok X W Cl rest g) : VBok X W Cl (st :: rest) (vSeq f g) := by
  obtain ⟨t, p, q⟩ := h1
  obtain ⟨u, p2, q2⟩ := h2
  refine ⟨_, pss_cons p p2, fun H0 G D σ H env Fs ow S k => q _ _ _ _ _ _ _ _ S ?_⟩
  unfold vSeq at k
  cases e : f env with
  | nx e1 =>
    rw [e] at k
    exact fun σ' H' Fs' ow' s x => q2 _ _ _ _ _ _ _ _ x (k.later s)
  | bk e1 => rw [e] at k; exact k
  | ct e1 => rw [e] at k; exact k
  | ret d l => rw [e] at k; exact k
  | ex e1 c fs => rw [e] at k; exact k
  | no => rw [e] at k; exact k
theorem vs_pass {pos : Pos} : VSok X W Cl (.Pass pos) (fun e => .nx e) := ⟨_, ps_pass, fun H0 G D σ H env Fs ow S k => k σ H Fs ow (Stp.refl _ _) S⟩
theorem vs_break {pos : Pos} : VSok X W Cl (.Break pos) (fun e => .bk e) := ⟨_, ps_break, fun H0 G D σ H env Fs ow S k => k σ H Fs ow (Stp.refl _ _) S⟩
theorem vs_continue {pos : Pos} : VSok X W Cl (.Continue pos) (fun e => .ct e) := ⟨_, ps_continue, fun H0 G D σ H env Fs ow S k => k σ H Fs ow (Stp.refl _ _) S⟩
theorem vs_never {st : Stmt} : VSok X W Cl st (fun _ => .no) := ⟨_, ps_never, fun H0 G D σ H env Fs ow S k => k⟩
theorem vs_doc {x : Str} {j : Nat} {pos pos' : Pos} : VSok X W Cl (.Expr (.Constant (.str x) j pos) pos') (fun e => .nx e) := ⟨_, ps_doc, fun H0 G D σ H env Fs ow S k => k σ H Fs ow (Stp.refl _ _) S⟩
/-- an expression alone -/
def vDrop (f : VE) : VS := fun env => match f env with
  | some _ => .nx env
  | none => .no
theorem vs_expr {e : Expr} {pos : Pos} {f : VE} (h : VEok X Cl e f) (hs : swapsWith e none pos.line X.env = pure false := by rfl) : VSok X W Cl (.Expr e pos) (vDrop f) := by
  obtain ⟨t, p, q⟩ := h
  refine ⟨_, ps_expr p hs, fun H0 G D σ H env Fs ow S k => ?_⟩
  unfold vDrop at k
  split at k
  · rename_i r er
    exact q _ _ _ _ _ _ _ _ _ S er fun v H1 s1 w1 => k σ H1 Fs ow (.of_same s1 fun _ h => .inl h) (S.go s1)
  · exact k.elim
theorem RetOk.of {K : PySem.W.Frag} {H0 H H' : Hp} {G : ASet} {σ : L2.St} {env : Ev} {Fs : Nat → ASet} {ow : Nat → List Addr} {v : V} {r : Rv} (S : StOk K Cl H0 G σ H env Fs ow) (w : ValOk K Cl H H' Fs v r) : RetOk K Cl H0 H' G v r.d r.l := by
  obtain ⟨F, wo, h1, h2, h3, h4, h5⟩ := w
  refine ⟨F, wo, h1, h2, fun a f => ?_, h4, fun a ha => S.same.free (h5 a ha)⟩
  rcases h3 a f with h | ⟨j, _, h⟩
  · exact .inl (S.same.free h)
  · exact S.base j a h
def vRet (f : VE) : VS := fun env => match f env with
  | some r => .ret r.d r.l
  | none => .no
theorem vs_ret {e : Expr} {pos : Pos} {f : VE} (h : VEok X Cl e f) : VSok X W Cl (.Return (some e) pos) (vRet f) := by
  obtain ⟨t, p, q⟩ := h
  refine ⟨_, ps_ret p, fun H0 G D σ H env Fs ow S k => ?_⟩
  unfold vRet at k
  split at k
  · rename_i r er
    exact q _ _ _ _ _ _ _ _ _ S er fun v H1 s1 w1 => k v H1 (fun a o e _ => s1 a o e) (.of S w1)
  · exact k.elim
/-- return x, x a name: what was its own goes with it -/
def vRetName (i : Nat) : VS := fun env => match env[i]? with
  | some (some (fl, d)) => .ret d fl
  | _ => .no
theorem vs_retName (i : Nat) {x : Str} {p pos : Pos} (hN : X.N[i]? = some x := by rfl) (hv : Vis X.env.scope x := by first | exact Or.inl rfl | exact Or.inr (Or.inl rfl) | exact Or.inr (Or.inr rfl)) (hd : (x == ("__debug__" : Str)) = false := by decide)
    (hcd : (x == ("__classdict__" : Str)) = false := by decide) : VSok X W Cl (.Return (some (.Name x p)) pos) (vRetName i) := by
  refine ⟨_, ps_ret (pe_var (i := i) hN hv hd hcd), fun H0 G D σ H env Fs ow S k => ?_⟩
  unfold vRetName at k
  split at k
  · rename_i fl d e1
    obtain ⟨v, h1, h2, h3⟩ := S.val i fl d e1
    exact ⟨v, h1, k v H (fun a o e _ => e) ⟨Fs i, ow i, h2, S.trk i, S.base i, h3, fun a ha => (S.own i a ha).2.1⟩⟩
  · exact k.elim
theorem vs_retN {pos : Pos} : VSok X W Cl (.Return none pos) (fun _ => .ret .non 2) := by
  refine ⟨_, ps_retN, fun H0 G D σ H env Fs ow S k => ?_⟩
  exact k .non H (fun a o e _ => e) ⟨fun _ => False, [], .non, fun _ f => f.elim, fun _ f => f.elim, .pure rfl, fun _ z => by cases z⟩
def vIfS (c : VT) (f g : VS) : VS := fun env => match c env with
  | some true => f env
  | some false => g env
  | none => .no
theorem vs_if {c : Expr} {a b : List Stmt} {pos : Pos} {h : VT} {f g : VS} (hc : VTok X Cl c h) (ha : VBok X W Cl a f) (hb : VBok X W Cl b g) : VSok X W Cl (.If c a b pos) (vIfS h f g) := by
  obtain ⟨tc, pc, qc⟩ := hc
  obtain ⟨ta, pa, qa⟩ := ha
  obtain ⟨tb, pb, qb⟩ := hb
  refine ⟨_, ps_if pc pa pb, fun H0 G D σ H env Fs ow S k => ?_⟩
  unfold vIfS at k
  split at k
  · rename_i e
    exact qc _ _ _ _ _ _ _ _ _ S e fun H1 s1 => iteT (qa _ _ _ _ _ _ _ _ (S.go s1) (k.later (.of_same s1 fun _ h => .inl h)))
  · rename_i e
    exact qc _ _ _ _ _ _ _ _ _ S e fun H1 s1 => iteF (qb _ _ _ _ _ _ _ _ (S.go s1) (k.later (.of_same s1 fun _ h => .inl h)))
  · exact k.elim

/-! ### targets -/
/-- only the slots of T differ -/
def OnlyT (T : List Nat) (σ σ' : L2.St) : Prop := σ'.length = σ.length ∧ ∀ j, j ∉ T → σ'[j]? = σ[j]?
theorem OnlyT.trans {T T' : List Nat} {a b c : L2.St} (h : OnlyT T a b) (k : OnlyT T' b c) : OnlyT (T ++ T') a c := ⟨k.1.trans h.1, fun j hj => by
  rw [List.mem_append] at hj
  rw [k.2 j (fun z => hj (.inr z)), h.2 j (fun z => hj (.inl z))]⟩
abbrev VG := D → Ev → Option Ev
def VGok (X : Cx) (Cl : ClsT) (T : List Nat) (tg : Expr) (g : VG) : Prop := ∃ t, PG X tg t ∧ ∀ (H0 : Hp) (G : ASet) (σ : L2.St) (H : Hp) (env env' : Ev) (Fs : Nat → ASet) (ow : Nat → List Addr) (F : ASet) (v : V) (d : D) (Q : L2.St → Hp → Prop), StOk X.K Cl H0 G σ H env Fs ow →
  Sep X.K Cl H0 H G ow F v d → g d env = some env' → (∀ σ' Fs' ow', StOk X.K Cl H0 G σ' H env' Fs' ow' → (∀ a, Ow ow' a → Ow ow a) → (∀ j a, Fs' j a → Fs j a ∨ F a) → OnlyT T σ σ' → Q σ' H) → t v σ H Q
abbrev VGs := List D → Ev → Option Ev
def VGsok (X : Cx) (Cl : ClsT) (T : List Nat) (tg : List Expr) (g : VGs) : Prop := ∃ t, PGs X tg t ∧ ∀ (H0 : Hp) (G : ASet) (σ : L2.St) (H : Hp) (env env' : Ev) (Fs : Nat → ASet) (ow : Nat → List Addr) (F : ASet) (vs : List V) (ds : List D) (Q : L2.St → Hp → Prop), StOk X.K Cl H0 G σ H env Fs ow →
  (Reps X.K Cl H F vs ds ∧ (∀ a, F a → H a ≠ none) ∧ (∀ a, F a → H0 a = none ∨ G a) ∧ ∀ a, F a → ¬ Ow ow a) → g ds env = some env' → (∀ σ' Fs' ow', StOk X.K Cl H0 G σ' H env' Fs' ow' → (∀ a, Ow ow' a → Ow ow a) → (∀ j a, Fs' j a → Fs j a ∨ F a) → OnlyT T σ σ' → Q σ' H) → t vs σ H Q
def gN (i : Nat) : VG := fun d env => if i < env.length then some (env.set i (some (0, d))) else none
theorem vg_name (i : Nat) {x : Str} {pos : Pos} (hN : X.N.Nodup) (hi : X.N[i]? = some x := by rfl) (hx : Loc X.env.scope x := by first | exact Or.inl rfl | exact Or.inr rfl) (hf : X.fn x = true ∨ X.env.scope.names.lookup x = some .local := by first | exact .inl rfl | exact .inr rfl) : VGok X Cl [i] (.Name x pos) (gN i) := by
  refine ⟨_, pg_name (i := i) hN hi hx hf, fun H0 G σ H env env' Fs ow F v d Q S w e k => ?_⟩
  unfold gN at e
  split at e <;> (first | (cases e; done) | skip)
  rename_i hl
  cases e
  obtain ⟨Fs', ow', h1, h2, h3⟩ := S.put0 hl w
  exact k _ _ _ h3 h1 h2 ⟨List.length_set, fun j hj => List.getElem?_set_ne (fun z => hj (by rw [z]; exact List.mem_singleton.mpr rfl))⟩
def gsNil : VGs := fun ds env => match ds with
  | [] => some env
  | _ => none
def gsCons (g : VG) (gs : VGs) : VGs := fun ds env => match ds with
  | d :: r => match g d env with
    | some e => gs r e
    | none => none
  | [] => none
theorem vgs_nil : VGsok X Cl [] [] gsNil := by
  refine ⟨_, pgs_nil, fun H0 G σ H env env' Fs ow F vs ds Q S w e k => ?_⟩
  unfold gsNil at e
  split at e <;> (first | (cases e; done) | skip)
  cases e
  obtain ⟨r, _⟩ := w
  cases r
  exact ⟨rfl, k _ _ _ S (fun _ h => h) (fun _ _ f => .inl f) ⟨rfl, fun _ _ => rfl⟩⟩
theorem vgs_cons {e : Expr} {es : List Expr} {g : VG} {gs : VGs} {T T' : List Nat} (h1 : VGok X Cl T e g) (h2 : VGsok X Cl T' es gs) (hs : (assignEach (e :: es) X.env).map (·.2) = assign e X.env :: (assignEach es X.env).map (·.2) := by rfl) : VGsok X Cl (T ++ T') (e :: es) (gsCons g gs) := by
  obtain ⟨t, p, q⟩ := h1
  obtain ⟨u, p2, q2⟩ := h2
  refine ⟨_, pgs_cons p p2 hs, fun H0 G σ H env env' Fs ow F vs ds Q S w e k => ?_⟩
  unfold gsCons at e
  split at e <;> (first | (cases e; done) | skip)
  rename_i d r
  split at e <;> (first | (cases e; done) | skip)
  rename_i e1 he1
  obtain ⟨rr, h2, h3, h4⟩ := w
  cases rr with
  | cons a b =>
    refine ⟨_, _, rfl, q _ _ _ _ _ _ _ _ _ _ _ _ S ⟨a, h2, h3, h4⟩ he1 fun σ' Fs' ow' S' m l o => ?_⟩
    exact q2 _ _ _ _ _ _ _ _ _ _ _ _ S' ⟨b, h2, h3, fun a f o => h4 a f (m a o)⟩ e fun σ2 Fs2 ow2 S2 m2 l2 o2 => k _ _ _ S2 (fun a o => m a (m2 a o)) (fun j a f => (l2 j a f).elim (l j a) .inr) (o.trans o2)
def gT (n : Nat) (gs : VGs) : VG := fun d env => match d with
  | .tup ds => if ds.length = n then gs ds env else none
  | _ => none
theorem vg_tup {es : List Expr} {kk n : Nat} {pos : Pos} {gs : VGs} {T : List Nat} (hc : X.calm = true) (h : VGsok X Cl T es gs) (hn : (assignEach es X.env).length = n := by rfl) (hst : (assignEach es X.env).findIdx? (·.1) = none := by rfl) : VGok X Cl T (.Tuple es kk pos) (gT n gs) := by
  obtain ⟨t, p, q⟩ := h
  refine ⟨_, pg_tup hc p hn hst, fun H0 G σ H env env' Fs ow F v d Q S w e k => ?_⟩
  unfold gT at e
  split at e <;> (first | (cases e; done) | skip)
  rename_i ds
  split at e <;> (first | (cases e; done) | skip)
  rename_i hl
  obtain ⟨rr, h2, h3, h4⟩ := w
  obtain ⟨a, us, rfl, ha, ra⟩ := rr.tup_of
  exact ⟨a, us, rfl, ha, by rw [ra.length, hl], q _ _ _ _ _ _ _ _ _ _ _ _ S ⟨ra, h2, h3, h4⟩ e k⟩

/-! ### assignments -/
def vSet (i : Nat) (f : VE) : VS := fun env => match f env with
  | some r => if i < env.length then .nx (put i r env) else .no
  | none => .no
theorem vs_set (i : Nat) {x : Str} {e : Expr} {pos pos' : Pos} {f : VE} (hN : X.N.Nodup) (h : VEok X Cl e f) (hi : X.N[i]? = some x := by rfl) (hx : Loc X.env.scope x := by first | exact Or.inl rfl | exact Or.inr rfl) (hs : swapsWith e (some (.Name x pos')) pos.line X.env = pure false := by rfl) (hf : X.fn x = true ∨ X.env.scope.names.lookup x = some .local := by first | exact .inl rfl | exact .inr rfl) : VSok X W Cl (.Assign [.Name x pos'] e pos) (vSet i f) := by
  obtain ⟨t, p, q⟩ := h
  refine ⟨_, ps_set (i := i) hN hi hx p hs hf, fun H0 G D σ H env Fs ow S k => ?_⟩
  unfold vSet at k
  split at k
  · rename_i r er
    split at k
    · rename_i hl
      refine q _ _ _ _ _ _ _ _ _ S er fun v H1 s1 w1 => ?_
      obtain ⟨Fs', ow', h1, h2⟩ := S.put hl s1 w1
      exact k _ _ _ _ h1 h2
    · exact k.elim
  · exact k.elim
def vAsg (f : VE) (g : VG) : VS := fun env => match f env with
  | some r => match g r.d (frz r.al env) with
    | some e => .nx e
    | none => .no
  | none => .no
theorem vs_asg {tg e : Expr} {pos : Pos} {f : VE} {g : VG} {T : List Nat} (h : VEok X Cl e f) (hg : VGok X Cl T tg g) (hs : swapsWithSole [tg] e pos.line X.env = pure false := by rfl) (hw : swappedStores [tg] e X.env = pure none := by rfl)
    (h1 : (assignEach [tg] X.env).map (·.2) = [assign tg X.env] := by rfl) : VSok X W Cl (.Assign [tg] e pos) (vAsg f g) := by
  obtain ⟨t, p, q⟩ := h
  obtain ⟨u, p2, q2⟩ := hg
  refine ⟨_, ps_asg p p2 hs hw h1, fun H0 G D σ H env Fs ow S k => ?_⟩
  unfold vAsg at k
  split at k
  · rename_i r er
    split at k
    · rename_i e1 he1
      refine q _ _ _ _ _ _ _ _ _ S er fun v H1 s1 w1 => ?_
      obtain ⟨F, w2⟩ := w1.sep S
      refine q2 _ _ _ _ _ _ _ _ _ _ _ _ ((S.frz (al := r.al)).go s1) w2 he1 fun σ' Fs' ow' S' m _ _ => ?_
      exact k _ _ _ _ (.of_same s1 fun a h => .inl (let ⟨j, hj⟩ := m a h; ⟨j, noOws_sub (al := r.al) j a hj⟩)) S'
    · exact k.elim
  · exact k.elim

/-! ### loops -/
abbrev VI := Ev → Option (List D × List Nat)
/-- what is walked: F the places that it leans on -/
def VIok (X : Cx) (Cl : ClsT) (tg iter : Expr) (f : VI) : Prop := ∃ wi, PI X tg iter wi ∧ ∀ (H0 : Hp) (G : ASet) (σ : L2.St) (H : Hp) (env : Ev) (Fs : Nat → ASet) (ow : Nat → List Addr) (ds : List D) (al : List Nat) (R : It → Hp → Prop), StOk X.K Cl H0 G σ H env Fs ow → f env = some (ds, al) →
  (∀ (J : It) (H' : Hp) (n : Nat) (GG : Hp → Prop) (Y : Nat → Hp → V → Hp → Prop) (F : ASet), Same H H' → Walk J n GG Y → n = ds.length → n ≤ sizeLine → (∀ a, F a → H' a ≠ none) → (∀ a, F a → H a = none ∨ ∃ j ∈ al, Fs j a) → (∀ H2, Stay F H' H2 → GG H2) →
    (∀ i H2 x H3, i < n → Stay F H' H2 → Y i H2 x H3 → Same H2 H3 ∧ ∃ d, ds[i]? = some d ∧ Rep X.K Cl H3 F x d) → R J H') → wi σ H R
def loopV (g : VG) (body : VS) : List D → Ev → Rs
  | [], e => .nx e
  | d :: ds, e => match g d e with
    | some e1 => match body e1 with
      | .nx e2 => loopV g body ds e2
      | .ct e2 => loopV g body ds e2
      | .bk e2 => .nx e2
      | r => r
    | none => .no
def vFor (f : VI) (g : VG) (body : VS) : VS := fun env => match f env with
  | some (ds, al) => loopV g body ds (frz al env)
  | none => .no
theorem Stay.later {F : ASet} {H H1 H2 : Hp} (a : Stay F H H1) (b : Stay F H1 H2) : Stay F H H2 := ⟨fun x o f e => b.at_ x o f (a.at_ x o f e), fun x xs e => b.tup x xs (a.tup x xs e), fun x o u e => b.frz x o u (a.frz x o u e)⟩
theorem vs_for {tg iter : Expr} {body : List Stmt} {pos : Pos} {f : VI} {g : VG} {b : VS} {T : List Nat} (hp : PassesOwn (model X.prog X.w) X.A X.env X.xe) (hc : X.calm = true) (hi : VIok X Cl tg iter f) (hg : VGok X Cl T tg g) (hb : VBok X W Cl body b)
    (hs : ∀ x, foldedSetIterable iter X.env x = pure x := by intro _; rfl) : VSok X W Cl (.For tg iter body [] pos) (vFor f g b) := by
  obtain ⟨wi, pi, qi⟩ := hi
  obtain ⟨tgt, pg, qg⟩ := hg
  obtain ⟨tb, pb, qb⟩ := hb
  refine ⟨_, ps_for hp hc pi pg pb hs, fun H0 G D σ H env Fs ow S k => ?_⟩
  unfold vFor at k
  split at k <;> (first | (exact k.elim; done) | skip)
  rename_i ds al ef
  refine qi _ _ _ _ _ _ _ _ _ _ S ef fun J H1 n GG Y F s1 wk hn hz ht hf hG hY => ?_
  -- the state behind the freezing
  have S1 : StOk X.K Cl H0 G σ H1 (frz al env) Fs (noOws al ow) := (S.frz (al := al)).go s1
  have nF : ∀ a, F a → ¬ Ow (noOws al ow) a := fun a fa ⟨j, hj⟩ => by
    have hj' := noOws_sub (al := al) j a hj
    obtain ⟨q1, q2, q3⟩ := S.own j a hj'
    rcases hf a fa with h | ⟨m, hm, h⟩
    · exact S.trk j a q1 h
    · by_cases e : m = j
      · subst e; exact noOws_not hj hm
      · exact q3 m e h
  have bF : ∀ a, F a → H0 a = none ∨ G a := fun a fa => by
    rcases hf a fa with h | ⟨m, _, h⟩
    · exact .inl (S.same.free h)
    · exact S.base m a h
  have k1 : EndOk X.K Cl W H0 G D H1 (noOws al ow) (loopV g b ds (frz al env)) := k.later (.of_same s1 fun a ⟨j, hj⟩ => .inl ⟨j, noOws_sub (al := al) j a hj⟩)
  refine for_it wk (fun i σ' H' => ∃ e' Fs' ow', StOk X.K Cl H0 G σ' H' e' Fs' ow' ∧ Stp H1 (noOws al ow) H' ow' ∧ EndOk X.K Cl W H0 G D H' ow' (loopV g b (ds.drop i) e')) ⟨_, _, _, S1, Stp.refl _ _, k1⟩ (fun i σ' H' _ ⟨e', Fs', ow', _, st, _⟩ => hG H' (S1.stay st nF)) ?_ ?_
  · rintro i x σ' H' H2 hin ⟨e', Fs', ow', S', st, kk⟩ hy
    have stay := S1.stay (F := F) st nF
    obtain ⟨s2, d, hd, rd⟩ := hY i H' x H2 hin stay hy
    have hdrop : ds.drop i = d :: ds.drop (i + 1) := by
      have hi' : i < ds.length := by omega
      rw [List.drop_eq_getElem_cons hi']
      congr
      rw [List.getElem?_eq_getElem hi'] at hd
      exact Option.some.inj hd
    rw [hdrop, loopV] at kk
    cases eg : g d e' with
    | none => rw [eg] at kk; exact kk.elim
    | some e1 =>
      rw [eg] at kk
      dsimp only at kk
      have S2 := S'.go s2
      have st2 : Stp H1 (noOws al ow) H2 ow' := st.trans (.of_same s2 fun _ h => .inl h)
      have nF2 : ∀ a, F a → ¬ Ow ow' a := fun a fa ho => by
        rcases st.own a ho with h | h
        · exact nF a fa h
        · exact ht a fa h
      have tr2 : ∀ a, F a → H2 a ≠ none := fun a fa z => by
        cases e0 : H1 a with
        | none => exact ht a fa e0
        | some o => rw [st2.keep a o e0 (nF a fa)] at z; cases z
      refine qg _ _ _ _ _ _ _ _ _ _ _ _ S2 ⟨rd, tr2, bF, nF2⟩ eg fun σ3 Fs3 ow3 S3 m3 _ _ => ?_
      have st3 : Stp H1 (noOws al ow) H2 ow3 := ⟨st2.keep, fun a h => st2.own a (m3 a h)⟩
      have st3' : Stp H' ow' H2 ow3 := .of_same s2 fun a h => .inl (m3 a h)
      have kk2 := EndOk.later kk st3'
      refine qb _ _ _ _ _ _ _ _ S3 ?_
      cases eb : b e1 with
      | nx e2 =>
        rw [eb] at kk2
        exact fun σ4 H4 Fs4 ow4 s4 S4 => ⟨e2, Fs4, ow4, S4, st3.trans s4, EndOk.later kk2 s4⟩
      | ct e2 =>
        rw [eb] at kk2
        exact fun σ4 H4 Fs4 ow4 s4 S4 => ⟨e2, Fs4, ow4, S4, st3.trans s4, EndOk.later kk2 s4⟩
      | bk e2 => rw [eb] at kk2; exact fun σ4 H4 Fs4 ow4 s4 S4 => kk2 σ4 H4 Fs4 ow4 s4 S4
      | ret d l => rw [eb] at kk2; exact kk2
      | ex e2 c fs => rw [eb] at kk2; exact kk2
      | no => rw [eb] at kk2; exact kk2.elim
  · rintro σ' H' ⟨e', Fs', ow', S', st, kk⟩
    rw [hn, List.drop_length, loopV] at kk
    exact kk σ' H' Fs' ow' (Stp.refl _ _) S'
def whileV (c : VT) (body : VS) : Nat → Ev → Rs
  | 0, _ => .no
  | n + 1, e => match c e with
    | some true => match body e with
      | .nx e2 => whileV c body n e2
      | .ct e2 => whileV c body n e2
      | .bk e2 => .nx e2
      | r => r
    | some false => .nx e
    | none => .no
theorem vs_while (n : Nat) {c : Expr} {body : List Stmt} {pos : Pos} {f : VT} {b : VS} (hp : PassesOwn (model X.prog X.w) X.A X.env X.xe) (hc : VTok X Cl c f) (hb : VBok X W Cl body b) : VSok X W Cl (.While c body [] pos) (whileV f b n) := by
  obtain ⟨tc, pc, qc⟩ := hc
  obtain ⟨tb, pb, qb⟩ := hb
  refine ⟨_, ps_while hp pc pb, fun H0 G D σ H env Fs ow S k => ?_⟩
  refine ⟨fun m σ' H' => ∃ e' Fs' ow', StOk X.K Cl H0 G σ' H' e' Fs' ow' ∧ EndOk X.K Cl W H0 G D H' ow' (whileV f b m e'), ⟨n, env, Fs, ow, S, k⟩, ?_⟩
  rintro m σ' H' ⟨e', Fs', ow', S', kk⟩
  cases m with
  | zero => exact kk.elim
  | succ m =>
    rw [whileV] at kk
    cases ec : f e' with
    | none => rw [ec] at kk; exact kk.elim
    | some t =>
      rw [ec] at kk
      refine qc _ _ _ _ _ _ _ _ _ S' ec fun H1 s1 => ?_
      have st : Stp H' ow' H1 ow' := .of_same s1 fun _ h => .inl h
      cases t with
      | false =>
        dsimp only at kk
        exact iteF (kk σ' H1 Fs' ow' st (S'.go s1))
      | true =>
        dsimp only at kk
        refine iteT ⟨fun σ2 H2 => ∃ e2 Fs2 ow2, StOk X.K Cl H0 G σ2 H2 e2 Fs2 ow2 ∧ EndOk X.K Cl W H0 G D H2 ow2 (whileV f b m e2), fun σ2 H2 ⟨e2, Fs2, ow2, S2, k2⟩ => ⟨m, Nat.lt_succ_self m, e2, Fs2, ow2, S2, k2⟩, ?_⟩
        have kk2 := EndOk.later kk st
        refine qb _ _ _ _ _ _ _ _ (S'.go s1) ?_
        cases eb : b e' with
        | nx e2 => rw [eb] at kk2; exact fun σ4 H4 Fs4 ow4 s4 S4 => ⟨e2, Fs4, ow4, S4, EndOk.later kk2 s4⟩
        | ct e2 => rw [eb] at kk2; exact fun σ4 H4 Fs4 ow4 s4 S4 => ⟨e2, Fs4, ow4, S4, EndOk.later kk2 s4⟩
        | bk e2 => rw [eb] at kk2; exact fun σ4 H4 Fs4 ow4 s4 S4 => kk2 σ4 H4 Fs4 ow4 s4 S4
        | ret d l => rw [eb] at kk2; exact kk2
        | ex e2 c fs => rw [eb] at kk2; exact kk2
        | no => rw [eb] at kk2; exact kk2.elim
end
end VL

namespace PySem
open Sem (wp)
set_option maxHeartbeats 1000000 in
theorem vl_meets_enumerate_new1 {v : Value} {o : Obj} {H : Heap → Prop} (B : Begins v o H) :
    Meets (Builtin.«enumerate.__new__» ⟨[.type "enumerate", v], []⟩) (fun _ R s => H s.heap ∧
      R (.ok (.ret (.ref (s.heap.push o).objs.size))) { s with heap := (s.heap.push o).push { cls := .type "enumerate", data := .fields #[.none, .bool false, .ref s.heap.objs.size, rawInt 0, .none, .none] } }) :=
  .of_wp fun prog w A R s h => by
    obtain ⟨hp, g, d, tk, os⟩ := s; obtain ⟨h1, h⟩ := h
    have hsub := sub_enumerate
    have q1 : ∀ {A' : Around} {E : Value → Shared → Prop} {Q : Value → Shared → Prop}, Q (.ref hp.objs.size) ⟨hp.push o, g, d, tk, os⟩ → wpAny (model prog w) A' (pyIter v) Q E ⟨hp, g, d, tk, os⟩ :=
      fun q => B.iter prog w _ _ ⟨hp, g, d, tk, os⟩ _ h1 q
    wp_walk using q1
    refine wpAny_stack_any fun st => wpAny_pure ?_
    split
    · rename_i c _ _ _ _ _
      cases (c == Value.type "enumerate")
      · wp_walk using q1
        exact ⟨_, rfl, h⟩
      · wp_walk using q1
        exact ⟨_, rfl, h⟩
    · wp_walk using q1
      exact ⟨_, rfl, h⟩
theorem vl_enum_begins1 {prog : Program} {w : World} {A : Around} {E : Value → Shared → Prop} {s : Shared} {v : Value} {o : Obj} {H : Heap → Prop} {Q : Value → Shared → Prop} (B : Begins v o H) (h1 : H s.heap)
    (h : ∀ h', IsEnum h' (s.heap.objs.size + 1) s.heap.objs.size 0 .none → h'.get? s.heap.objs.size = some o → h'.objs.size = s.heap.objs.size + 2 →
      (∀ b o, s.heap.get? b = some o → h'.get? b = some o) → Q (.ref (s.heap.objs.size + 1)) { s with heap := h' }) :
    wpAny (model prog w) A (call (.type "enumerate") [v]) Q E s := by
  refine callType_new F.called_enumerate (by decide) (F.typeCall_enumerate_1 _) (F.newCall_enumerate_1 _) (fun obj => F.args_object_init_2 obj _) F.entry_enumerate_new
    (vl_meets_enumerate_new1 B) ⟨h1, ?_⟩
  have hz : (s.heap.push o).objs.size = s.heap.objs.size + 1 := Heap.size_push ..
  show _ ∧ _
  rw [hz]
  have he : IsEnum ((s.heap.push o).push { cls := .type "enumerate", data := .fields #[.none, .bool false, .ref s.heap.objs.size, rawInt 0, .none, .none] }) (s.heap.objs.size + 1) s.heap.objs.size 0 .none := by
    have := Heap.get?_push_size (s.heap.push o) (o := { cls := .type "enumerate", data := .fields #[.none, .bool false, .ref s.heap.objs.size, rawInt 0, .none, .none] }) rfl
    rw [hz] at this; exact this
  refine ⟨⟨_, he, rfl⟩, h _ he (Heap.get?_push_of_some _ (Heap.get?_push_size _ B.free)) (by rw [Heap.size_push, hz]) fun b o x => Heap.get?_push_of_some _ (Heap.get?_push_of_some _ x)⟩
end PySem
namespace VL
open PySem PySem.Spec L2 PyProof.Rows

/-! ### enumerate of a tuple -/
def IteT (K : PySem.W.Frag) (a : Addr) : It :=
  ⟨fun i H => ∃ (xs : List V) (x : V), SqT K H a xs ∧ xs[i]? = some x, fun i H v H' => ∃ T x, v = .ref T ∧ H T = none ∧ H' = upd H T (.tup [.int (i : Nat), x]) ∧ ∀ xs, SqT K H a xs → xs[i]? = some x, fun i H => ∃ xs : List V, SqT K H a xs ∧ xs.length ≤ i⟩
theorem turn_enumT {P : Program} {w : World} {K : PySem.W.Frag} {elts : List Expr} {kk : Nat} {tpos : Pos} (a e it : Addr) (hai : a ≠ it) (hea : e ≠ a) :
    Turn P w K (.Tuple elts kk tpos) (IteT K a) [e, it] e (fun i h => (∃ old, IsEnum h e it ((i : Nat) : Int) old) ∧ h.IsTupleIter it a i ∧ e ≠ it) where
  mem := by simp
  obj := fun i h st b hb => by
    obtain ⟨⟨old, he⟩, ⟨o, ho, hc, hd⟩, _⟩ := st
    have e' : b = e ∨ b = it := by simpa using hb
    rcases e' with z | z
    · rw [z]; exact ⟨_, he, fun v q => nomatch q⟩
    · rw [z]; exact ⟨o, ho, fun v q => by rw [hd] at q; cases q⟩
  keep := fun i h h' st k => let ⟨⟨old, he⟩, hi, hne⟩ := st; ⟨⟨old, k e (by simp) _ he⟩, hi.at fun o q => k it (by simp) o q, hne⟩
  item := by
    intro X hP hw hK hc i pins s σ H E I hf st hg
    subst hP hw hK
    obtain ⟨⟨old, he⟩, hit, hne⟩ := st
    obtain ⟨xs, x, hq, hx⟩ := hg
    obtain ⟨its, rv, p, hz⟩ := I.tuple hq
    obtain ⟨u, hu, ru⟩ := rv.get hx
    have hel : e < s.heap.objs.size := Heap.lt_size he
    have hil : it < s.heap.objs.size := by obtain ⟨_, q, _⟩ := hit; exact Heap.lt_size q
    have D := Draws.tuple (prog := X.prog) (w := X.w) (A := X.A.in1) (show X.A.in1.handled = none from I.ok.hd hc) it a hai its.toArray
    have hsz := its.length
    have hil2 : i < its.toArray.size := by
      have := (List.getElem?_eq_some_iff.mp hu).1
      simpa using this
    refine wpAny_pyNext_enum_itemD D he ⟨hit, (show s.heap.IsTuple a its.toArray from p)⟩ hil2 hne (by simp; exact ⟨hne, hea⟩) fun u' h' tk hu' ho hst' hT hsz hk => ?_
    have eu : u' = u := by
      have q : its.toArray[i]? = some u := by simpa using hu
      rw [q] at hu'; cases hu'; rfl
    subst eu
    refine ⟨_, rfl, wpAny_letOwnedTupleGo_enum (s := { s with heap := h', toks := tk + 1 }) ho fun h'' he' sb => ?_⟩
    have hT2 : h''.get? s.heap.objs.size = some { cls := .type "tuple", data := .seq #[.int i tk, u'] } := (sb.2 _ (Nat.ne_of_gt hel)).trans hT
    have new : ObjOk X.prog X.w (upd H s.heap.objs.size (.tup [.int (i : Nat), x])) h'' s.heap.objs.size (.tup [.int (i : Nat), x]) :=
      ⟨by show 2 ≤ sizeLine; decide, [.int i tk, u'], .cons ⟨_, rfl⟩ (.cons ru .nil), ⟨_, hT2, rfl, _, rfl⟩⟩
    have I1 : Inv X pins σ (upd H s.heap.objs.size (.tup [.int (i : Nat), x])) { s with heap := h'', toks := tk + 1 } :=
      I.turnedNew (ch := [e, it]) (fun b ob hb q => (sb.2 b (fun z => hb (by simp [z]))).trans (hk b ob (fun z => hb (by simp [z])) (fun z => hb (by simp [z])) q)) hf (Nat.le_refl _) new
    refine ⟨.ref s.heap.objs.size, _, I1, rfl, ⟨_, x, rfl, I.hok.fresh (Nat.le_refl _), rfl, fun ys hy => by rw [I.tuple_inj hy hq]; exact hx⟩, ⟨⟨u', ?_⟩, hst'.1.at fun o q => (sb.2 it (Ne.symm hne)).trans q, hne⟩, fun b hb => ?_⟩
    · have e1 : ((i + 1 : Nat) : Int) = (i : Int) + 1 := by omega
      rw [e1]; exact he'
    · have hb' : b < s.heap.objs.size := by
        have e' : b = e ∨ b = it := by simpa using hb
        rcases e' with z | z
        · rw [z]; exact hel
        · rw [z]; exact hil
      rw [upd_ne (Nat.ne_of_lt hb')]
      exact (hf b hb).1
  done := by
    intro X hP hw hK hc i pins s σ H E I hf st hg
    subst hP hw hK
    obtain ⟨⟨old, he⟩, hit, hne⟩ := st
    obtain ⟨xs, hq, hx⟩ := hg
    obtain ⟨its, rv, p, hz⟩ := I.tuple hq
    obtain ⟨f0, f1, f2, f3, f4, f5⟩ := hf it (by simp)
    have hl := rv.length
    -- the items are all taken: the end of what it draws
    have D := Draws.tuple (prog := X.prog) (w := X.w) (A := X.A.in1) (show X.A.in1.handled = none from I.ok.hd hc) it a hai its.toArray
    refine wpAny_pyNext_enum_endD (St := fun _ h => h.IsTupleIter it a i ∧ h.IsTuple a its.toArray) (fp := [it, a]) (n := 0) (P := fun _ _ => True) ⟨fun _ h st => let ⟨o, ho, _⟩ := st.1; ⟨o, ho⟩, fun _ h h' st hk => ⟨st.1.at fun o e => hk it (by simp) o e, st.2.at fun o e => hk a (by simp) o e⟩, fun i' s Q E hi => absurd hi (Nat.not_lt_zero _), fun s Q E st hE => wpAny_nextOf_tuple_end (show X.A.in1.handled = none from I.ok.hd hc) st.1 st.2 (by simp; omega) hE⟩ he ⟨hit, (show s.heap.IsTuple a its.toArray from p)⟩ fun h' eb => ⟨rfl, I.turned (t' := s.toks) (fun b o hb q => eb b o hb q) f0 f1 f3 f4 f5⟩
  self := fun A i s Q E st h => let ⟨⟨_, he⟩, _⟩ := st; wpAny_pyIter_enum he h
def iEnumT (K : PySem.W.Frag) (ta : TA) : TI := fun σ H R => ta σ H fun vs H1 => ∃ a xs, vs = [.ref a] ∧ SqT K H1 a xs ∧ R (IteT K a) H1
theorem pi_enumT {X : Cx} {e : Expr} {ta : TA} {p pos tpos : Pos} {elts : List Expr} {kk : Nat} (hg : Gl X "enumerate") (hm : X.mg "enumerate" = none) (ha : PA X [e] ta) (hs : starEach [e] X.env = [(false, eval e X.env)] := by rfl) :
    PI X (.Tuple elts kk tpos) (.Call (.Name "enumerate" p) [e] [] pos) (iEnumT X.K ta) := by
  refine ⟨fun pins s σ H R I h => ?_⟩
  refine Call_ (ld_blt I hg hm boot_enumerate (PyProof.Rows.callWith_type1 (thn (ha.run pos pins s σ H _ I h) fun us s1 ⟨vs, H1, I1, r1, q1⟩ => ?_) hs rfl))
  obtain ⟨a, xs, ex, hq, q⟩ := q1
  subst ex
  cases r1 with
  | cons r rr =>
    cases rr
    cases r
    obtain ⟨its, rv, p', hz⟩ := I1.tuple hq
    have hal : a < s1.heap.objs.size := by obtain ⟨o, ho, _⟩ := p'; exact Heap.lt_size ho
    refine vl_enum_begins1 (begins_tuple a its.toArray) (show s1.heap.IsTuple a its.toArray from p') fun h' he hit hsz hk => wpAny_pyIter_enum he ?_
    have I2 : Inv X pins σ H1 { s1 with heap := h' } := I1.kept (t' := s1.toks) hk
    refine ⟨s1.heap.objs.size + 1, [s1.heap.objs.size + 1, s1.heap.objs.size], _, _, H1, rfl, I2, turn_enumT a (s1.heap.objs.size + 1) s1.heap.objs.size (Nat.ne_of_lt hal) (Nat.ne_of_gt (Nat.lt_succ_of_lt hal)), ⟨⟨.none, he⟩, ⟨_, hit, rfl, rfl⟩, Nat.succ_ne_self _⟩, fun b hb => ?_, q⟩
    have e' : b = s1.heap.objs.size + 1 ∨ b = s1.heap.objs.size := by simpa using hb
    have hle : s1.heap.objs.size ≤ b := by
      rcases e' with z | z
      · rw [z]; exact Nat.le_add_right _ _
      · rw [z]; exact Nat.le_refl _
    exact I1.fpOk hle (I1.hok.fresh hle)
theorem walk_enumT {K : PySem.W.Frag} {a : Addr} {xs : List V} : Walk (IteT K a) xs.length (fun H => SqT K H a xs) (YPair (fun i => some (.int (i : Nat))) (fun i => xs[i]?)) :=
  ⟨fun i _ hi q => ⟨xs, xs[i], q, by simp [hi]⟩, fun _ q => ⟨xs, q, Nat.le_refl _⟩, fun i H v H' hi q y => by
    obtain ⟨T, x, rfl, hT, rfl, hx⟩ := y
    exact ⟨T, .int (i : Nat), x, rfl, hT, rfl, rfl, hx xs q⟩⟩

section
variable {X : Cx} {Cl : ClsT}
theorem pi_or {tg iter : Expr} {w1 w2 : TI} (a : PI X tg iter w1) (b : PI X tg iter w2) : PI X tg iter (fun σ H R => w1 σ H R ∨ w2 σ H R) := ⟨fun pins s σ H R I h => h.elim (a.run pins s σ H R I) (b.run pins s σ H R I)⟩
theorem line_of_lst {K : PySem.W.Frag} {P : Program} {w : World} {H : Hp} {h : Heap} {a : Addr} {xs : List V} (ok : HOk P w H h) (e : H a = some (.lst xs)) : xs.length ≤ sizeLine := (show ObjOk P w H h a (.lst xs) from ok a _ e).1

/-- the items of a list, a tuple -/
def itemsD (x : Rv) : Option (List D × List Nat) := match x.d with
  | .lst ds => if ds.length ≤ 16777216 then some (ds, x.al) else none
  | .tup ds => if ds.length ≤ 16777216 then some (ds, x.al) else none
  | _ => none
def iSeq (f : VE) : VI := fun env => match f env with
  | some x => itemsD x
  | none => none
theorem vi_seq {tg e : Expr} {f : VE} (h : VEok X Cl e f) : VIok X Cl tg e (iSeq f) := by
  obtain ⟨t, p, q⟩ := h
  refine ⟨_, pi_or (pi_list p) (pi_tup p), fun H0 G σ H env Fs ow ds al R S e k => ?_⟩
  unfold iSeq at e
  split at e <;> (first | (cases e; done) | skip)
  rename_i x ex
  unfold itemsD at e
  split at e <;> (first | (cases e; done) | skip)
  · rename_i ds' ed
    split at e <;> (first | (cases e; done) | skip)
    rename_i hl
    cases e
    left
    refine q _ _ _ _ _ _ _ _ _ S ex fun v H1 s1 w1 => ?_
    obtain ⟨F, _, r1, t1, f1, _⟩ := w1
    rw [ed] at r1
    obtain ⟨a, xs, rfl, ha, fa, ra⟩ := r1.lst_of
    refine ⟨a, rfl, ⟨xs, SqL.of ha⟩, k _ H1 _ _ _ F s1 walk_list ra.length (line_eq (by rw [ra.length]; exact hl)) t1 f1 (fun H2 st => SqL.of (st.at_ _ _ fa ha)) fun i H2 y H3 hi st hy => ?_⟩
    obtain ⟨rfl, hy⟩ := hy
    obtain ⟨d, hd, rd⟩ := ra.get' hy
    exact ⟨Same.refl _, d, hd, rd.go st fun _ h => h⟩
  · rename_i ds' ed
    split at e <;> (first | (cases e; done) | skip)
    rename_i hl
    cases e
    right
    refine q _ _ _ _ _ _ _ _ _ S ex fun v H1 s1 w1 => ?_
    obtain ⟨F, _, r1, t1, f1, _⟩ := w1
    rw [ed] at r1
    obtain ⟨a, xs, rfl, ha, ra⟩ := r1.tup_of
    refine ⟨a, rfl, ⟨xs, ha⟩, k _ H1 _ _ _ F s1 walk_tup ra.length (line_eq (by rw [ra.length]; exact hl)) t1 f1 (fun H2 st => st.tupS ha) fun i H2 y H3 hi st hy => ?_⟩
    obtain ⟨rfl, hy⟩ := hy
    obtain ⟨d, hd, rd⟩ := ra.get' hy
    exact ⟨Same.refl _, d, hd, rd.go st fun _ h => h⟩

/-- whole numbers from i, n of them, by steps of c -/
def upTo (i c : Int) : Nat → List D
  | 0 => []
  | n + 1 => .int i :: upTo (i + c) c n
theorem upTo_length (c : Int) : ∀ (n : Nat) (i : Int), (upTo i c n).length = n
  | 0, _ => rfl
  | n + 1, i => by rw [upTo, List.length_cons, upTo_length c n]
theorem upTo_get (c : Int) : ∀ (n k : Nat) (i : Int), k < n → (upTo i c n)[k]? = some (.int (i + (k : Nat) * c))
  | 0, _, _, h => absurd h (Nat.not_lt_zero _)
  | n + 1, 0, i, _ => by rw [upTo]; simp
  | n + 1, k + 1, i, h => by
    rw [upTo, List.getElem?_cons_succ, upTo_get c n k (i + c) (Nat.lt_of_succ_lt_succ h)]
    have e : i + c + (k : Int) * c = i + ((k + 1 : Nat) : Int) * c := by
      rw [show ((k + 1 : Nat) : Int) = (k : Int) + 1 from by omega, Int.add_mul]
      omega
    rw [e]
def rngOk (j : Int) : Bool := decide (-16777216 ≤ j) && decide (j ≤ 16777216)
theorem rng_of {j : Int} (h : rngOk j = true) : -16777216 ≤ j ∧ j ≤ 16777216 := by
  unfold rngOk at h
  rwa [Bool.and_eq_true, decide_eq_true_eq, decide_eq_true_eq] at h
def iRange1 (g : VA) : VI := fun env => match g env with
  | some [x] => match x.d with
    | .int j => if rngOk j then some (upTo 0 1 j.toNat, []) else none
    | _ => none
  | _ => none
theorem vals_one {K : PySem.W.Frag} {Hs H : Hp} {Fs : Nat → ASet} {vs : List V} {x : Rv} (w : ValsOk K Cl Hs H Fs vs [x]) : ∃ v, vs = [v] ∧ ValOk K Cl Hs H Fs v x := by
  cases vs with
  | nil => exact w.elim
  | cons v vs =>
    obtain ⟨H1, s1, s2, w1, w⟩ := w
    cases vs with
    | cons _ _ => exact w.elim
    | nil => exact ⟨v, rfl, w1.same s2⟩
theorem vals_two {K : PySem.W.Frag} {Hs H : Hp} {Fs : Nat → ASet} {vs : List V} {x y : Rv} (w : ValsOk K Cl Hs H Fs vs [x, y]) : ∃ v u H1, vs = [v, u] ∧ Same Hs H1 ∧ Same H1 H ∧ ValOk K Cl Hs H Fs v x ∧ ValOk K Cl H1 H Fs u y := by
  cases vs with
  | nil => exact w.elim
  | cons v vs =>
    obtain ⟨H1, s1, s2, w1, w⟩ := w
    obtain ⟨u, rfl, w2⟩ := vals_one w
    exact ⟨v, u, H1, rfl, s1, s2, w1.same s2, w2⟩
theorem vi_range1 {tg a : Expr} {p pos : Pos} {g : VA} (hm : X.mg "range" = none) (ha : VAok X Cl [a] g) (hg : Gl X "range" := by rfl) (hs : starEach [a] X.env = [(false, eval a X.env)] := by rfl) : VIok X Cl tg (.Call (.Name "range" p) [a] [] pos) (iRange1 g) := by
  obtain ⟨t, p, q⟩ := ha
  refine ⟨_, pi_range1 hg hm p hs, fun H0 G σ H env Fs ow ds al R S e k => ?_⟩
  unfold iRange1 at e
  split at e <;> (first | (cases e; done) | skip)
  rename_i x ex
  split at e <;> (first | (cases e; done) | skip)
  rename_i j ed
  split at e <;> (first | (cases e; done) | skip)
  rename_i hl
  cases e
  refine q _ _ _ _ _ _ _ _ _ S ex fun vs H1 s1 w1 => ?_
  obtain ⟨v, rfl, w2⟩ := vals_one w1
  have ev := val_int w2 ed
  subst ev
  have hr := rng_of hl
  refine ⟨j, rfl, by omega, by omega, k _ H1 _ _ _ (fun _ => False) s1 walk_range (upTo_length _ _ _).symm (line_eq (by omega)) (fun _ f => f.elim) (fun _ f => f.elim) (fun _ _ => trivial) fun i H2 y H3 hi st hy => ?_⟩
  obtain ⟨rfl, rfl⟩ := hy
  refine ⟨Same.refl _, _, upTo_get 1 _ i 0 hi, ?_⟩
  rw [Int.mul_one]
  exact .int _
def iRange2 (g : VA) : VI := fun env => match g env with
  | some [x, y] => match x.d, y.d with
    | .int i, .int j => if (rngOk i && rngOk j) && decide (j - i ≤ 16777216) then some (upTo i 1 (j - i).toNat, []) else none
    | _, _ => none
  | _ => none
theorem vi_range2 {tg a b : Expr} {p pos : Pos} {g : VA} (hm : X.mg "range" = none) (ha : VAok X Cl [a, b] g) (hg : Gl X "range" := by rfl) (hs : starEach [a, b] X.env = [(false, eval a X.env), (false, eval b X.env)] := by rfl) (hs2 : starEach [b] X.env = [(false, eval b X.env)] := by rfl) : VIok X Cl tg (.Call (.Name "range" p) [a, b] [] pos) (iRange2 g) := by
  obtain ⟨t, p, q⟩ := ha
  refine ⟨_, pi_range2 hg hm p hs hs2, fun H0 G σ H env Fs ow ds al R S e k => ?_⟩
  unfold iRange2 at e
  split at e <;> (first | (cases e; done) | skip)
  rename_i x y ex
  split at e <;> (first | (cases e; done) | skip)
  rename_i i j ed1 ed2
  split at e <;> (first | (cases e; done) | skip)
  rename_i hl
  cases e
  rw [Bool.and_eq_true, Bool.and_eq_true, decide_eq_true_eq] at hl
  have hi := rng_of hl.1.1
  have hj := rng_of hl.1.2
  refine q _ _ _ _ _ _ _ _ _ S ex fun vs H1 s1 w1 => ?_
  obtain ⟨v, u, H2, rfl, _, _, w2, w3⟩ := vals_two w1
  have ev := val_int w2 ed1
  subst ev
  have eu := val_int w3 ed2
  subst eu
  refine ⟨i, j, rfl, ⟨by omega, by omega, by omega, by omega⟩, ?_⟩
  have hbig : (j - i).toNat ≤ sizeLine := line_eq (by omega)
  refine k _ H1 _ _ _ (fun _ => False) s1 walk_range (upTo_length _ _ _).symm hbig (fun _ f => f.elim) (fun _ f => f.elim) (fun _ _ => trivial) fun m H2 y H3 hi st hy => ?_
  obtain ⟨rfl, rfl⟩ := hy
  refine ⟨Same.refl _, _, upTo_get 1 _ m i hi, ?_⟩
  rw [Int.mul_one]
  exact .int _
def iRange3 (g : VA) : VI := fun env => match g env with
  | some [x, y, z] => match x.d, y.d, z.d with
    | .int i, .int j, .int (-1) => if (rngOk i && rngOk j) && decide (i - j ≤ 16777216) then some (upTo i (-1) (i - j).toNat, []) else none
    | _, _, _ => none
  | _ => none
theorem vals_three {K : PySem.W.Frag} {Hs H : Hp} {Fs : Nat → ASet} {vs : List V} {x y z : Rv} (w : ValsOk K Cl Hs H Fs vs [x, y, z]) : ∃ v u t H1 H2, vs = [v, u, t] ∧ ValOk K Cl Hs H Fs v x ∧ ValOk K Cl H1 H Fs u y ∧ ValOk K Cl H2 H Fs t z := by
  cases vs with
  | nil => exact w.elim
  | cons v vs =>
    obtain ⟨H1, s1, s2, w1, w⟩ := w
    obtain ⟨u, t, H2, rfl, _, _, w2, w3⟩ := vals_two w
    exact ⟨v, u, t, H1, H2, rfl, w1.same s2, w2, w3⟩
theorem vi_range3 {tg a b c : Expr} {p pos : Pos} {g : VA} (hm : X.mg "range" = none) (ha : VAok X Cl [a, b, c] g) (hg : Gl X "range" := by rfl) (hs : starEach [a, b, c] X.env = (false, eval a X.env) :: starEach [b, c] X.env := by rfl) (hpl : (backTo pos (starEach [b, c] X.env)).any (·.1) = false := by rfl) : VIok X Cl tg (.Call (.Name "range" p) [a, b, c] [] pos) (iRange3 g) := by
  obtain ⟨t, p, q⟩ := ha
  refine ⟨_, pi_range3 hg hm p hs hpl, fun H0 G σ H env Fs ow ds al R S e k => ?_⟩
  unfold iRange3 at e
  split at e <;> (first | (cases e; done) | skip)
  rename_i x y z ex
  split at e <;> (first | (cases e; done) | skip)
  rename_i i j ed1 ed2 ed3
  split at e <;> (first | (cases e; done) | skip)
  rename_i hl
  cases e
  rw [Bool.and_eq_true, Bool.and_eq_true, decide_eq_true_eq] at hl
  have hi := rng_of hl.1.1
  have hj := rng_of hl.1.2
  refine q _ _ _ _ _ _ _ _ _ S ex fun vs H1 s1 w1 => ?_
  obtain ⟨v, u, t, H2, H3, rfl, w2, w3, w4⟩ := vals_three w1
  have ev := val_int w2 ed1
  subst ev
  have eu := val_int w3 ed2
  subst eu
  have et := val_int w4 ed3
  subst et
  refine ⟨i, j, -1, (i - j).toNat, rfl, .neg (by omega) (by omega) (by omega) (by omega), ?_⟩
  refine k _ H1 _ _ _ (fun _ => False) s1 walk_rangeC (upTo_length _ _ _).symm (line_eq (by omega)) (fun _ f => f.elim) (fun _ f => f.elim) (fun _ _ => trivial) fun m H2 y H3 hi st hy => ?_
  obtain ⟨rfl, rfl⟩ := hy
  exact ⟨Same.refl _, _, upTo_get (-1) _ m i hi, .int _⟩

/-- pairs (0, a), (1, b) .. -/
def numD : Int → List D → List D
  | _, [] => []
  | i, d :: ds => .tup [.int i, d] :: numD (i + 1) ds
theorem numD_length : ∀ (i : Int) (ds : List D), (numD i ds).length = ds.length
  | _, [] => rfl
  | i, d :: ds => by rw [numD, List.length_cons, List.length_cons, numD_length]
theorem numD_get : ∀ (i : Int) (ds : List D) (k : Nat) (d : D), ds[k]? = some d → (numD i ds)[k]? = some (.tup [.int (i + (k : Nat)), d])
  | _, [], _, _, h => by simp at h
  | i, d :: ds, 0, d', h => by
    rw [List.getElem?_cons_zero] at h
    cases h
    rw [numD, List.getElem?_cons_zero]
    simp
  | i, d :: ds, k + 1, d', h => by
    rw [List.getElem?_cons_succ] at h
    rw [numD, List.getElem?_cons_succ, numD_get (i + 1) ds k d' h]
    have e : i + 1 + (k : Int) = i + ((k + 1 : Nat) : Int) := by omega
    rw [e]
def iEnumD (g : VA) : VI := fun env => match g env with
  | some [x] => match itemsD x with
    | some (ds, al) => some (numD 0 ds, al)
    | none => none
  | _ => none
/-- a new pair at each turn -/
theorem pair_turn {K : PySem.W.Frag} {H2 H3 : Hp} {F : ASet} {xs ys : Nat → Option V} {i : Nat} {x : V} {d1 d2 : D} (hy : YPair xs ys i H2 x H3) (h1 : ∀ v, xs i = some v → Rep K Cl H2 F v d1) (h2 : ∀ v, ys i = some v → Rep K Cl H2 F v d2) : Same H2 H3 ∧ Rep K Cl H3 F x (.tup [d1, d2]) := by
  obtain ⟨T, a, b, rfl, hT, rfl, ha, hb⟩ := hy
  have s := same_upd (o := .tup [a, b]) hT
  exact ⟨s, .tup (SqT.of upd_same) (.cons ((h1 a ha).same s) (.cons ((h2 b hb).same s) .nil))⟩
theorem vi_enum {e : Expr} {elts : List Expr} {kk : Nat} {tpos p pos : Pos} {g : VA} (hm : X.mg "enumerate" = none) (ha : VAok X Cl [e] g) (hg : Gl X "enumerate" := by rfl) (hs : starEach [e] X.env = [(false, eval e X.env)] := by rfl) : VIok X Cl (.Tuple elts kk tpos) (.Call (.Name "enumerate" p) [e] [] pos) (iEnumD g) := by
  obtain ⟨t, p, q⟩ := ha
  refine ⟨_, pi_or (pi_enum hg hm p hs) (pi_enumT hg hm p hs), fun H0 G σ H env Fs ow ds al R S e k => ?_⟩
  unfold iEnumD at e
  split at e <;> (first | (cases e; done) | skip)
  rename_i x ex
  split at e <;> (first | (cases e; done) | skip)
  rename_i ds' al' ei
  cases e
  unfold itemsD at ei
  split at ei <;> (first | (cases ei; done) | skip)
  · rename_i ds2 ed
    split at ei <;> (first | (cases ei; done) | skip)
    rename_i hl
    cases ei
    left
    refine q _ _ _ _ _ _ _ _ _ S ex fun vs H1 s1 w1 => ?_
    obtain ⟨v, rfl, w2⟩ := vals_one w1
    obtain ⟨F, _, r1, t1, f1, _⟩ := w2
    rw [ed] at r1
    obtain ⟨a, xs, rfl, ha, fa, ra⟩ := r1.lst_of
    refine ⟨a, xs, rfl, SqL.of ha, k _ H1 _ _ _ F s1 walk_enum (by rw [numD_length]; exact ra.length) (line_eq (by rw [ra.length]; exact hl)) t1 f1 (fun H2 st => SqL.of (st.at_ _ _ fa ha)) fun i H2 y H3 hi st hy => ?_⟩
    obtain ⟨d, hd, rd⟩ := ra.get' (List.getElem?_eq_getElem hi)
    obtain ⟨s2, rr⟩ := pair_turn (Cl := Cl) (K := X.K) (F := F) (d1 := .int (i : Nat)) (d2 := d) hy (fun v e => by cases e; exact .int _) (fun v e => by rw [List.getElem?_eq_getElem hi] at e; cases e; exact rd.go st fun _ h => h)
    refine ⟨s2, _, numD_get 0 _ i d hd, ?_⟩
    rw [Int.zero_add]
    exact rr
  · rename_i ds2 ed
    split at ei <;> (first | (cases ei; done) | skip)
    rename_i hl
    cases ei
    right
    refine q _ _ _ _ _ _ _ _ _ S ex fun vs H1 s1 w1 => ?_
    obtain ⟨v, rfl, w2⟩ := vals_one w1
    obtain ⟨F, _, r1, t1, f1, _⟩ := w2
    rw [ed] at r1
    obtain ⟨a, xs, rfl, ha, ra⟩ := r1.tup_of
    refine ⟨a, xs, rfl, ha, k _ H1 _ _ _ F s1 walk_enumT (by rw [numD_length]; exact ra.length) (line_eq (by rw [ra.length]; exact hl)) t1 f1 (fun H2 st => st.tupS ha) fun i H2 y H3 hi st hy => ?_⟩
    obtain ⟨d, hd, rd⟩ := ra.get' (List.getElem?_eq_getElem hi)
    obtain ⟨s2, rr⟩ := pair_turn (Cl := Cl) (K := X.K) (F := F) (d1 := .int (i : Nat)) (d2 := d) hy (fun v e => by cases e; exact .int _) (fun v e => by rw [List.getElem?_eq_getElem hi] at e; cases e; exact rd.go st fun _ h => h)
    refine ⟨s2, _, numD_get 0 _ i d hd, ?_⟩
    rw [Int.zero_add]
    exact rr
end
end VL

namespace VL
open PySem PySem.Spec L2

/-! ### one reading for each meaning (it does not depend on the context) -/
def cE (K : PySem.W.Frag) (Cl : ClsT) (f : VE) : TE := fun σ H Q => ∃ (H0 : Hp) (G : ASet) (env : Ev) (Fs : Nat → ASet) (ow : Nat → List Addr) (r : Rv), StOk K Cl H0 G σ H env Fs ow ∧ f env = some r ∧ ∀ v H', Same H H' → ValOk K Cl H H' Fs v r → Q v H'
theorem VEok.canon {X : Cx} {Cl : ClsT} {e : Expr} {f : VE} (h : VEok X Cl e f) : PE X e (cE X.K Cl f) := by
  obtain ⟨t, p, q⟩ := h
  exact ⟨fun pins s σ H Q I ⟨H0, G, env, Fs, ow, r, S, er, k⟩ => p.run pins s σ H Q I (q _ _ _ _ _ _ _ _ _ S er k)⟩
def cT (K : PySem.W.Frag) (Cl : ClsT) (f : VT) : TT := fun σ H Q => ∃ (H0 : Hp) (G : ASet) (env : Ev) (Fs : Nat → ASet) (ow : Nat → List Addr) (b : Bool), StOk K Cl H0 G σ H env Fs ow ∧ f env = some b ∧ ∀ H', Same H H' → Q b H'
def VTsok (X : Cx) (Cl : ClsT) (ifs : List Expr) (f : VT) : Prop := PTs X ifs (cT X.K Cl f)
theorem VTok.canon {X : Cx} {Cl : ClsT} {e : Expr} {f : VT} (h : VTok X Cl e f) : PT X e (cT X.K Cl f) := by
  obtain ⟨t, p, q⟩ := h
  exact ⟨fun pins s σ H Q I ⟨H0, G, env, Fs, ow, r, S, er, k⟩ => p.run pins s σ H Q I (q _ _ _ _ _ _ _ _ _ S er k)⟩
theorem vts_nil {X : Cx} {Cl : ClsT} : VTsok X Cl [] (fun _ => some true) :=
  ⟨fun pins s σ H Q I ⟨H0, G, env, Fs, ow, r, S, er, k⟩ => by cases er; exact pts_nil.run pins s σ H Q I (k H (Same.refl _))⟩
theorem vts_one {X : Cx} {Cl : ClsT} {c : Expr} {f : VT} (h : VTok X Cl c f) : VTsok X Cl [c] f := pts_one h.canon
def cG (K : PySem.W.Frag) (Cl : ClsT) (T : List Nat) (g : VG) : TG := fun v σ H Q => ∃ (H0 : Hp) (G : ASet) (env env' : Ev) (Fs : Nat → ASet) (ow : Nat → List Addr) (F : ASet) (d : D), StOk K Cl H0 G σ H env Fs ow ∧ Sep K Cl H0 H G ow F v d ∧ g d env = some env' ∧
  ∀ σ' Fs' ow', StOk K Cl H0 G σ' H env' Fs' ow' → (∀ a, Ow ow' a → Ow ow a) → (∀ j a, Fs' j a → Fs j a ∨ F a) → OnlyT T σ σ' → Q σ' H
theorem VGok.canon {X : Cx} {Cl : ClsT} {T : List Nat} {tg : Expr} {g : VG} (h : VGok X Cl T tg g) : PG X tg (cG X.K Cl T g) := by
  obtain ⟨t, p, q⟩ := h
  exact ⟨fun pins s σ H v u Q I r ⟨H0, G, env, env', Fs, ow, F, d, S, w, e, k⟩ => p.run pins s σ H v u Q I r (q _ _ _ _ _ _ _ _ _ _ _ _ S w e k)⟩

/-! ### a list comprehension -/
def wipeE (e : Ev) : List Nat → Ev
  | [] => e
  | v :: vs => (wipeE e vs).set v none
def compV (g : VG) (tt : VT) (fe : VE) (e0 : Ev) : List D → Option (List Rv)
  | [] => some []
  | d :: ds => match g d e0 with
    | some e1 => match tt e1 with
      | some true => match fe e1 with
        | some r => match compV g tt fe e0 ds with
          | some rs => some (r :: rs)
          | none => none
        | none => none
      | some false => compV g tt fe e0 ds
      | none => none
    | none => none
def compRv (n : Nat) (rs : List Rv) : Rv := if rs.all gridChild then ⟨.lst (dsOf rs), 2, []⟩ else ⟨.lst (dsOf rs), 1, List.range n⟩
def vComp (it : VI) (vs : List Nat) (g : VG) (tt : VT) (fe : VE) : VE := fun env => match it env with
  | some (ds, al) => match compV g tt fe (frz al (wipeE env vs)) ds with
    | some rs => some (compRv env.length rs)
    | none => none
  | none => none
def hide (p : Addr) (H : Hp) : Hp := fun b => if b = p then none else H b
theorem hide_same {p : Addr} {H : Hp} : hide p H p = none := if_pos rfl
theorem hide_ne {p b : Addr} {H : Hp} (h : b ≠ p) : hide p H b = H b := if_neg h
theorem hide_upd {p : Addr} {H : Hp} {o : HO} : hide p (upd H p o) = hide p H := by
  funext b
  unfold hide
  by_cases h : b = p
  · rw [if_pos h, if_pos h]
  · rw [if_neg h, if_neg h, upd_ne h]
theorem upd_hide {p : Addr} {H : Hp} {o : HO} (h : H p = some o) : upd (hide p H) p o = H := by
  funext b
  by_cases e : b = p
  · subst e; rw [upd_same, h]
  · rw [upd_ne e, hide_ne e]
theorem Same.hide {p : Addr} {H H' : Hp} (s : Same H H') : Same (hide p H) (hide p H') := fun b o e => by
  by_cases h : b = p
  · subst h; rw [hide_same] at e; cases e
  · rw [hide_ne h] at e ⊢; exact s b o e
section
variable {K : PySem.W.Frag} {Cl : ClsT}
theorem ValsOk.snoc {Fs : Nat → ASet} {v : V} {r : Rv} {H H1 : Hp} (s : Same H H1) (w : ValOk K Cl H H1 Fs v r) : ∀ {vs : List V} {rs : List Rv} {Hs : Hp}, Same Hs H → ValsOk K Cl Hs H Fs vs rs → ValsOk K Cl Hs H1 Fs (vs ++ [v]) (rs ++ [r])
  | [], [], Hs, sh, _ => ⟨H1, sh.trans s, Same.refl _, w.from sh, trivial⟩
  | x :: vs, y :: rs, Hs, sh, ⟨H2, s1, s2, w1, h⟩ => ⟨H2, s1, s2.trans s, w1, ValsOk.snoc s w s2 h⟩
  | [], _ :: _, _, _, h => h.elim
  | _ :: _, [], _, _, h => h.elim
/-- a value by other slots' places: what it leans on told anew -/
theorem ValOk.via {Hs H : Hp} {Fs Fs' : Nat → ASet} {v : V} {r : Rv} {al : List Nat} (w : ValOk K Cl Hs H Fs v r) (h : ∀ j ∈ r.al, ∀ a, Fs j a → Hs a = none ∨ ∃ k ∈ al, Fs' k a) : ValOk K Cl Hs H Fs' v ⟨r.d, r.l, al⟩ := by
  obtain ⟨F, wo, h1, h2, h3, h4, h5⟩ := w
  refine ⟨F, wo, h1, h2, fun a f => ?_, h4, h5⟩
  rcases h3 a f with q | ⟨j, hj, q⟩
  · exact .inl q
  · exact h j hj a q
/-- seen without the list at p -/
theorem ValOk.hidden {Hs H : Hp} {Fs : Nat → ASet} {v : V} {r : Rv} {p : Addr} {xs : List V} (w : ValOk K Cl Hs H Fs v r) (hs : ∃ o, Hs p = some o) (hp : H p = some (.lst xs)) (n : ∀ j ∈ r.al, ¬ Fs j p) : ValOk K Cl (hide p Hs) (hide p H) Fs v r := by
  obtain ⟨F, wo, h1, h2, h3, h4, h5⟩ := w
  have nF : ∀ a, F a → a ≠ p := fun a f z => by
    subst z
    obtain ⟨o, ho⟩ := hs
    rcases h3 a f with q | ⟨j, hj, q⟩
    · rw [q] at ho; cases ho
    · exact n j hj q
  have st : Stay F H (hide p H) := ⟨fun a o f e => by rw [hide_ne (nF a f)]; exact e, fun a xs' e => by rw [hide_ne (fun z => by subst z; rw [hp] at e; cases e)]; exact e, fun a o u e => by rw [hide_ne (fun z => by subst z; rw [hp] at e; cases e)]; exact e⟩
  refine ⟨F, wo, h1.go st fun _ h => h, fun a f => by rw [hide_ne (nF a f)]; exact h2 a f, fun a f => ?_, h4.go st fun _ h => h, fun a ha => ?_⟩
  · rcases h3 a f with q | q
    · rw [hide_ne (nF a f)]; exact .inl q
    · exact .inr q
  · have f := h4.sub a ha
    rw [hide_ne (nF a f)]; exact h5 a ha
end
theorem wipeE_length : ∀ (e : Ev) (vs : List Nat), (wipeE e vs).length = e.length
  | _, [] => rfl
  | e, v :: vs => by rw [wipeE, List.length_set, wipeE_length e vs]
theorem wipeE_get {e : Ev} {i : Nat} {x : Nat × D} : ∀ {vs : List Nat}, (wipeE e vs)[i]? = some (some x) → e[i]? = some (some x) ∧ i ∉ vs
  | [], h => ⟨h, by simp⟩
  | v :: vs, h => by
    rw [wipeE] at h
    by_cases hi : v = i
    · subst hi
      by_cases hv : v < (wipeE e vs).length
      · rw [List.getElem?_set_self hv] at h; cases h
      · rw [List.getElem?_eq_none (by simpa using hv)] at h; cases h
    · rw [List.getElem?_set_ne hi] at h
      obtain ⟨h1, h2⟩ := wipeE_get h
      exact ⟨h1, by simp only [List.mem_cons, not_or]; exact ⟨fun e => hi e.symm, h2⟩⟩
theorem wipe_not {σ : L2.St} {i : Nat} : ∀ {vs : List Nat}, i ∉ vs → (wipe σ vs)[i]? = σ[i]?
  | [], _ => rfl
  | v :: vs, h => by
    simp only [List.mem_cons, not_or] at h
    rw [wipe, List.getElem?_set_ne (fun z => h.1 z.symm), wipe_not h.2]
theorem wipe_in {σ : L2.St} {i : Nat} : ∀ {us : List Nat}, i ∈ us → (wipe σ us)[i]? = if i < σ.length then some none else none
  | [], h => by cases h
  | v :: us, h => by
    rw [wipe]
    by_cases e : v = i
    · subst e
      by_cases hl : v < σ.length
      · rw [if_pos hl, List.getElem?_set_self (by rw [wipe_length]; exact hl)]
      · rw [if_neg hl, List.getElem?_eq_none (by rw [List.length_set, wipe_length]; omega)]
    · rw [List.getElem?_set_ne e]
      exact wipe_in ((List.mem_cons.mp h).resolve_left fun z => e z.symm)
theorem wipe_only {σ σ' : L2.St} {T vs : List Nat} (o : OnlyT T σ σ') (sub : ∀ j ∈ T, j ∈ vs) : wipe σ' vs = wipe σ vs := by
  apply List.ext_getElem?
  intro i
  by_cases h : i ∈ vs
  · rw [wipe_in h, wipe_in h, o.1]
  · rw [wipe_not h, wipe_not h]
    exact o.2 i fun z => h (sub i z)
theorem wipe_wipe {σ : L2.St} {vs : List Nat} : wipe (wipe σ vs) vs = wipe σ vs := by
  apply List.ext_getElem?
  intro i
  by_cases h : i ∈ vs
  · rw [wipe_in h, wipe_in h, wipe_length]
  · rw [wipe_not h]
/-- the slots that are wiped -/
theorem StOk.wiped {K : PySem.W.Frag} {Cl : ClsT} {H0 H : Hp} {G : ASet} {σ : L2.St} {env : Ev} {Fs : Nat → ASet} {ow : Nat → List Addr} (S : StOk K Cl H0 G σ H env Fs ow) (vs : List Nat) : StOk K Cl H0 G (wipe σ vs) H (wipeE env vs) Fs ow := by
  refine ⟨S.same, by rw [wipeE_length, wipe_length]; exact S.len, fun i fl d e => ?_, S.trk, S.base, S.own, S.kind, fun i a f => by rw [wipeE_length]; exact S.fin i a f⟩
  obtain ⟨h1, h2⟩ := wipeE_get e
  obtain ⟨v, q1, q2⟩ := S.val i fl d h1
  exact ⟨v, by rw [wipe_not h2]; exact q1, q2⟩
def adj (n : Nat) (r : Rv) : Rv := ⟨r.d, r.l, List.range (n + 1)⟩
theorem adj_ds (n : Nat) (rs : List Rv) : dsOf (rs.map (adj n)) = dsOf rs := by unfold dsOf; rw [List.map_map]; rfl
theorem adj_grid (n : Nat) : ∀ rs : List Rv, (rs.map (adj n)).all gridChild = rs.all gridChild
  | [] => rfl
  | r :: rs => by rw [List.map_cons, List.all_cons, List.all_cons, adj_grid n rs]; rfl

section
variable {X : Cx} {Cl : ClsT}
theorem comp_ok {wi : TI} {T vs : List Nat} {g : VG} {tt : VT} {fe : VE} {f : VI} (hT : ∀ j ∈ T, j ∈ vs)
    (qi : ∀ (H0 : Hp) (G : ASet) (σ : L2.St) (H : Hp) (env : Ev) (Fs : Nat → ASet) (ow : Nat → List Addr) (ds : List D) (al : List Nat) (R : It → Hp → Prop), StOk X.K Cl H0 G σ H env Fs ow → f env = some (ds, al) →
      (∀ (J : It) (H' : Hp) (n : Nat) (GG : Hp → Prop) (Y : Nat → Hp → V → Hp → Prop) (F : ASet), Same H H' → Walk J n GG Y → n = ds.length → n ≤ sizeLine → (∀ a, F a → H' a ≠ none) → (∀ a, F a → H a = none ∨ ∃ j ∈ al, Fs j a) → (∀ H2, Stay F H' H2 → GG H2) →
        (∀ i H2 x H3, i < n → Stay F H' H2 → Y i H2 x H3 → Same H2 H3 ∧ ∃ d, ds[i]? = some d ∧ Rep X.K Cl H3 F x d) → R J H') → wi σ H R)
    {H0 : Hp} {G : ASet} {σ : L2.St} {H : Hp} {env : Ev} {Fs : Nat → ASet} {ow : Nat → List Addr} {r : Rv} {Q : VK} (S : StOk X.K Cl H0 G σ H env Fs ow) (e : vComp f vs g tt fe env = some r)
    (k : ∀ v H', Same H H' → ValOk X.K Cl H H' Fs v r → Q v H') : tLc wi (cG X.K Cl T g) (cT X.K Cl tt) (cE X.K Cl fe) vs σ H Q := by
  unfold vComp at e
  split at e <;> (first | (cases e; done) | skip)
  rename_i ds al ef
  split at e <;> (first | (cases e; done) | skip)
  rename_i rs ers
  cases e
  refine qi _ _ _ _ _ _ _ _ _ _ S ef fun J H1 n GG Y F s1 wk hn hz ht hf hG hY => fun p hp => ?_
  have inner : ∀ {H2 : Hp}, Same H H2 → StOk X.K Cl H0 G (wipe σ vs) H2 (frz al (wipeE env vs)) Fs (noOws al ow) := fun s => ((S.wiped vs).frz (al := al)).go s
  have nF : ∀ a, F a → ¬ Ow (noOws al ow) a := fun a fa ⟨j, hj⟩ => by
    have hj' := noOws_sub (al := al) j a hj
    obtain ⟨q1, q2, q3⟩ := S.own j a hj'
    rcases hf a fa with h | ⟨m, hm, h⟩
    · exact S.trk j a q1 h
    · by_cases e : m = j
      · subst e; exact noOws_not hj hm
      · exact q3 m e h
  have bF : ∀ a, F a → H0 a = none ∨ G a := fun a fa => by
    rcases hf a fa with h | ⟨m, _, h⟩
    · exact .inl (S.same.free h)
    · exact S.base m a h
  have fpF : ¬ F p := fun f => ht p f hp
  have fpS : ∀ j, ¬ Fs j p := fun j f => S.trk j p f (s1.free hp)
  refine lc_it wk (fun i H2 => Same H1 H2 ∧ ∃ acc done rest, H2 p = some (.lst acc) ∧ Same H1 (hide p H2) ∧ ValsOk X.K Cl H (hide p H2) (fun j a => Fs j a ∨ F a) acc (done.map (adj env.length)) ∧ acc.length ≤ i ∧ compV g tt fe (frz al (wipeE env vs)) (ds.drop i) = some rest ∧ done ++ rest = rs) ?_ (fun i H2 _ ⟨s2, _⟩ => hG H2 (.of_same s2)) ?_ ?_
  · refine ⟨same_upd hp, [], [], rs, upd_same, fun b o eb => ?_, trivial, Nat.zero_le _, ers, rfl⟩
    rw [hide_ne (ne_of_none eb hp), upd_ne (ne_of_none eb hp)]; exact eb
  · rintro i x H2 H3 hin ⟨s2, acc, done, rest, hpl, sh, vok, hacc, erest, eds⟩ hy
    obtain ⟨s3, d, hd, rd⟩ := hY i H2 x H3 hin (.of_same s2) hy
    have hi' : i < ds.length := by omega
    have hdrop : ds.drop i = d :: ds.drop (i + 1) := by
      rw [List.drop_eq_getElem_cons hi']
      congr
      rw [List.getElem?_eq_getElem hi'] at hd
      exact Option.some.inj hd
    rw [hdrop, compV] at erest
    split at erest <;> (first | (cases erest; done) | skip)
    rename_i e1 eg
    have s13 : Same H1 H3 := s2.trans s3
    have tr3 : ∀ a, F a → H3 a ≠ none := fun a fa z => ht a fa (s13.free z)
    refine ⟨H0, G, frz al (wipeE env vs), e1, Fs, noOws al ow, F, d, inner (s1.trans s13), ⟨rd, tr3, bF, nF⟩, eg, fun σ2 Fs2 ow2 S2 m2 l2 o2 => ⟨?_, ?_⟩⟩
    · rw [wipe_only o2 hT, wipe_wipe]
    have fp2 : ∀ j, ¬ Fs2 j p := fun j f => (l2 j p f).elim (fpS j) fpF
    split at erest <;> (first | (cases erest; done) | skip)
    · rename_i et
      split at erest <;> (first | (cases erest; done) | skip)
      rename_i r er
      split at erest <;> (first | (cases erest; done) | skip)
      rename_i rest2 erest2
      cases erest
      refine ⟨H0, G, e1, Fs2, ow2, true, S2, et, fun H4 s4 => iteT ?_⟩
      refine ⟨H0, G, e1, Fs2, ow2, r, S2.go s4, er, fun v H5 s5 w5 => ?_⟩
      have s25 : Same H2 H5 := (s3.trans s4).trans s5
      have h4p : H4 p = some (.lst acc) := (s3.trans s4) p _ hpl
      have h5p : H5 p = some (.lst acc) := s5 p _ h4p
      have w6 : ValOk X.K Cl (hide p H2) (hide p H5) (fun j a => Fs j a ∨ F a) v (adj env.length r) := by
        have w7 := w5.hidden (p := p) ⟨_, h4p⟩ h5p fun j _ => fp2 j
        have w8 := w7.from (Same.hide (p := p) (s3.trans s4))
        refine w8.via fun j hj a f => ?_
        rcases l2 j a f with f | f
        · exact .inr ⟨j, List.mem_range.mpr (Nat.lt_succ_of_lt (S.fin j a f)), .inl f⟩
        · exact .inr ⟨0, List.mem_range.mpr (Nat.succ_pos _), .inr f⟩
      have sh2 : Same (hide p H2) (hide p H5) := Same.hide s25
      refine ⟨acc, h5p, Nat.lt_of_lt_of_le (Nat.lt_of_le_of_lt hacc hin) hz, fun b o eb => ?_, acc ++ [v], done ++ [r], rest2, upd_same, by rw [hide_upd]; exact sh.trans sh2, ?_, ?_, erest2, ?_⟩
      · have hb : b ≠ p := fun z => by subst z; rw [hp] at eb; cases eb
        rw [upd_ne hb]; exact (s2.trans s25) b o eb
      · rw [hide_upd, List.map_append]
        exact ValsOk.snoc sh2 w6 (s1.trans sh) vok
      · rw [List.length_append, List.length_singleton]; omega
      · rw [List.append_assoc]; exact eds
    · rename_i et
      refine ⟨H0, G, e1, Fs2, ow2, false, S2, et, fun H4 s4 => iteF ?_⟩
      have s24 : Same H2 H4 := s3.trans s4
      have sh2 : Same (hide p H2) (hide p H4) := Same.hide s24
      have up : ∀ {vs : List V} {rs : List Rv} {Hs : Hp}, ValsOk X.K Cl Hs (hide p H2) (fun j a => Fs j a ∨ F a) vs rs → ValsOk X.K Cl Hs (hide p H4) (fun j a => Fs j a ∨ F a) vs rs := fun {vs} => by
        induction vs with
        | nil => intro rs Hs h; cases rs with
          | nil => trivial
          | cons _ _ => exact h.elim
        | cons v vs ih =>
          intro rs Hs h
          cases rs with
          | nil => exact h.elim
          | cons r rs =>
            obtain ⟨Hm, q1, q2, q3, q4⟩ := h
            exact ⟨Hm, q1, q2.trans sh2, q3, ih q4⟩
      exact ⟨s2.trans s24, acc, done, rest, s24 p _ hpl, sh.trans sh2, up vok, Nat.le_succ_of_le hacc, erest, eds⟩
  · rintro H2 ⟨s2, acc, done, rest, hpl, sh, vok, hacc, erest, eds⟩
    rw [hn, List.drop_length, compV] at erest
    cases erest
    rw [List.append_nil] at eds
    subst eds
    have q := lst_made (p := p) (s1.trans sh) vok hide_same
    rw [upd_hide hpl] at q
    refine k _ _ (s1.trans s2) ?_
    have q2 : ∀ (al' : List Nat), (∀ j a, Fs j a ∨ F a → H a = none ∨ ∃ m ∈ al', Fs m a) → ∀ rr : Rv, ValOk X.K Cl H H2 (fun j a => Fs j a ∨ F a) (.ref p) rr → ValOk X.K Cl H H2 Fs (.ref p) ⟨rr.d, rr.l, al'⟩ := fun al' h rr w => w.via fun j _ a f => h j a f
    unfold lstRv at q
    unfold compRv
    rw [adj_grid, adj_ds] at q
    by_cases g : done.all gridChild = true
    · rw [if_pos g] at q ⊢
      exact q.via fun j hj => by cases hj
    · rw [if_neg g] at q ⊢
      refine q.via fun j _ a f => ?_
      rcases f with f | f
      · exact .inr ⟨j, List.mem_range.mpr (S.fin j a f), f⟩
      · rcases hf a f with h | ⟨m, _, h⟩
        · exact .inl h
        · exact .inr ⟨m, List.mem_range.mpr (S.fin m a h), h⟩
/-- [elt for tg in iter if ..] -/
theorem ve_comp {elt tg iter : Expr} {ifs : List Expr} {scope : Scope} {own : List (Str × Nat)} {pos : Pos} {f : VI} {T : List Nat} {g : VG} {tt : VT} {fe : VE} (hc : X.calm = true) (hN : X.N.Nodup) (hi : VIok X Cl tg iter f) (ok : BlkOk X.N X.env.scope scope own)
    (hg : ∀ (s : Shared) (H : Hp) (C : Addr) (cl : List (Str × Addr)) (fp : List Addr), VGok (X.blk s H scope (compEnvC scope cl C X.env) fp) Cl T tg g)
    (ht : ∀ (s : Shared) (H : Hp) (C : Addr) (cl : List (Str × Addr)) (fp : List Addr), VTsok (X.blk s H scope (compEnvC scope cl C X.env) fp) Cl ifs tt)
    (he : ∀ (s : Shared) (H : Hp) (C : Addr) (cl : List (Str × Addr)) (fp : List Addr), VEok (X.blk s H scope (compEnvC scope cl C X.env) fp) Cl elt fe)
    (hT : ∀ j ∈ T, j ∈ own.map (·.2)) (hs : ∀ x, foldedSetIterable iter X.env x = pure x := by intro _; rfl) : VEok X Cl (.ListComp elt [⟨tg, iter, ifs, 0⟩] scope pos) (vComp f (own.map (·.2)) g tt fe) := by
  obtain ⟨wi, pi, qi⟩ := hi
  exact ⟨_, pe_lc (g := cG X.K Cl T g) (tt := cT X.K Cl tt) (te := cE X.K Cl fe) hc hN pi ok (fun s H C cl fp => (hg s H C cl fp).canon) (fun s H C cl fp => ht s H C cl fp) (fun s H C cl fp => (he s H C cl fp).canon) hs, fun H0 G σ H env Fs ow r Q S e k => comp_ok hT qi S e k⟩
/-- name = [..], the name a plain local -/
theorem vs_setLc (i : Nat) {W : WX} {y : Str} {py : Pos} {elt tg iter : Expr} {ifs : List Expr} {scope : Scope} {own : List (Str × Nat)} {pos spos : Pos} {f : VI} {T : List Nat} {g : VG} {tt : VT} {fe : VE} (hc : X.calm = true) (hN : X.N.Nodup) (hi : VIok X Cl tg iter f) (ok : BlkOk X.N X.env.scope scope own)
    (hg : ∀ (s : Shared) (H : Hp) (C : Addr) (cl : List (Str × Addr)) (fp : List Addr), VGok (X.blk s H scope (compEnvC scope cl C X.env) fp) Cl T tg g)
    (ht : ∀ (s : Shared) (H : Hp) (C : Addr) (cl : List (Str × Addr)) (fp : List Addr), VTsok (X.blk s H scope (compEnvC scope cl C X.env) fp) Cl ifs tt)
    (he : ∀ (s : Shared) (H : Hp) (C : Addr) (cl : List (Str × Addr)) (fp : List Addr), VEok (X.blk s H scope (compEnvC scope cl C X.env) fp) Cl elt fe)
    (hT : ∀ j ∈ T, j ∈ own.map (·.2)) (hy : X.N[i]? = some y := by rfl) (hyl : X.env.scope.names.lookup y = some .local := by rfl)
    (hsw : swapsWith (.ListComp elt [⟨tg, iter, ifs, 0⟩] scope pos) (some (.Name y py)) spos.line X.env = pure true := by exact sw_true rfl rfl rfl (by decide +kernel)) (hs : ∀ x, foldedSetIterable iter X.env x = pure x := by intro _; rfl) :
    VSok X W Cl (.Assign [.Name y py] (.ListComp elt [⟨tg, iter, ifs, 0⟩] scope pos) spos) (vSet i (vComp f (own.map (·.2)) g tt fe)) := by
  obtain ⟨wi, pi, qi⟩ := hi
  refine ⟨_, ps_setLc (g := cG X.K Cl T g) (tt := cT X.K Cl tt) (te := cE X.K Cl fe) hc hN hy hyl hsw pi ok (fun s H C cl fp => (hg s H C cl fp).canon) (fun s H C cl fp => ht s H C cl fp) (fun s H C cl fp => (he s H C cl fp).canon) hs, fun H0 G D σ H env Fs ow S k => ?_⟩
  unfold vSet at k
  split at k
  · rename_i r er
    split at k
    · rename_i hl
      refine comp_ok hT qi S er fun v H1 s1 w1 => ?_
      obtain ⟨Fs', ow', h1, h2⟩ := S.put hl s1 w1
      exact k _ _ _ _ h1 h2
    · exact k.elim
  · exact k.elim
end
end VL

namespace VL
open PySem PySem.Spec L2 PyProof.Rows

/-! ### a list of one's own is changed -/
/-- slot i now holds the list es; what was put in leans on al -/
def chg (i : Nat) (es : List D) (al : List Nat) (e : Ev) : Ev := (frz al e).set i (some (1, .lst es))
section
variable {K : PySem.W.Frag} {Cl : ClsT} {H0 H H' : Hp} {G : ASet} {σ : L2.St} {env : Ev} {Fs : Nat → ASet} {ow : Nat → List Addr}
/-- slot i holds a list of its own -/
theorem StOk.mine (S : StOk K Cl H0 G σ H env Fs ow) {i fl : Nat} {ds : List D} (e : env[i]? = some (some (fl, .lst ds))) (hfl : 1 ≤ fl) :
    ∃ a xs F', σ[i]? = some (some (.ref a)) ∧ H a = some (.lst xs) ∧ Reps K Cl H F' xs ds ∧ ¬ F' a ∧ (∀ b, F' b → Fs i b) ∧ Fs i a ∧ a ∈ ow i := by
  obtain ⟨v, h1, h2, h3⟩ := S.val i fl _ e
  obtain ⟨a, F', rfl, o, n, m, fa, ha⟩ := h3.top hfl rfl
  cases o with
  | lst h r => exact ⟨a, _, F', h1, h, r, n, m, fa, ha⟩
/-- .. and is changed -/
theorem StOk.chg (S : StOk K Cl H0 G σ H env Fs ow) (s : Same H H') {i fl : Nat} {ds es : List D} {al : List Nat} {a : Addr} {xs ys : List V} {F' F : ASet} (e : env[i]? = some (some (fl, .lst ds)))
    (h1 : σ[i]? = some (some (.ref a))) (ha : H a = some (.lst xs)) (ha' : a ∈ ow i) (n : ¬ F' a) (m : ∀ b, F' b → Fs i b) (t : ∀ b, F b → H' b ≠ none) (f : ∀ b, F b → H b = none ∨ ∃ j ∈ al, Fs j b) (ni : i ∉ al) (r : Reps K Cl H' (fun b => F' b ∨ F b) ys es) :
    ∃ Fs' ow', Stp H ow (upd H' a (.lst ys)) ow' ∧ StOk K Cl H0 G σ (upd H' a (.lst ys)) (chg i es al env) Fs' ow' := by
  have hi : i < env.length := (List.getElem?_eq_some_iff.mp e).1
  obtain ⟨qa1, qa2, qa3⟩ := S.own i a ha'
  have nF : ¬ F a := fun fa => by
    rcases f a fa with h | ⟨j, hj, h⟩
    · rw [ha] at h; cases h
    · exact qa3 j (fun z => ni (z ▸ hj)) h
  have ha2 : H' a = some (.lst xs) := s a _ ha
  have nn : ¬ (F' a ∨ F a) := fun z => z.elim n nF
  have st : ∀ {F0 : ASet}, ¬ F0 a → Stay F0 H' (upd H' a (.lst ys)) := fun h0 => Stay.upd ha2 h0 (fun _ z => by cases z) fun _ _ z => by cases z
  have y := (S.frz (al := al)).go s
  let F2 : ASet := fun b => b = a ∨ F' b ∨ F b
  refine ⟨ins1 i F2 Fs, ins1 i [a] (noOws al ow), ⟨fun b o eb nb => ?_, fun b ⟨j, hj⟩ => ?_⟩, fun b o eb => ?_, ?_, fun j fl' d' e' => ?_, fun j b fb => ?_, fun j b fb => ?_, fun j b hb => ?_, fun j b hb => ?_, fun j b fb => ?_⟩
  · rw [upd_ne (fun z => nb ⟨i, by rw [z]; exact ha'⟩)]; exact s b o eb
  · by_cases hj' : j = i
    · subst hj'
      rw [ins1_same, List.mem_singleton] at hj
      subst hj
      exact .inl ⟨j, ha'⟩
    · rw [ins1_ne hj'] at hj; exact .inl ⟨j, noOws_sub (al := al) j b hj⟩
  · rw [upd_ne (fun z => by subst z; rw [qa2] at eb; cases eb)]; exact y.same b o eb
  · unfold VL.chg; rw [List.length_set, frz_length]; exact S.len
  · unfold VL.chg at e'
    by_cases hj : j = i
    · subst hj
      rw [List.getElem?_set_self (by rw [frz_length]; exact hi)] at e'
      cases e'
      rw [ins1_same, ins1_same]
      have r2 := r.go (st nn) fun _ h => h
      exact ⟨.ref a, h1, .lst upd_same (.inl rfl) (r2.mono fun b h => .inr h), .one (F' := fun b => F' b ∨ F b) (.lst upd_same r2) nn (fun b h => .inr h) (.inl rfl)⟩
    · rw [List.getElem?_set_ne (fun z => hj z.symm)] at e'
      rw [ins1_ne hj, ins1_ne hj]
      obtain ⟨v, k1, k2, k3⟩ := y.val j fl' d' e'
      have na : ¬ Fs j a := qa3 j hj
      exact ⟨v, k1, k2.go (st na) fun _ h => h, k3.go (st na) fun _ h => h⟩
  · by_cases hba : b = a
    · subst hba; rw [upd_same]; intro z; cases z
    · rw [upd_ne hba]
      by_cases hj : j = i
      · subst hj
        rw [ins1_same] at fb
        rcases fb with fb | fb | fb
        · exact absurd fb hba
        · exact y.trk j b (m b fb)
        · exact t b fb
      · rw [ins1_ne hj] at fb; exact y.trk j b fb
  · by_cases hj : j = i
    · subst hj
      rw [ins1_same] at fb
      rcases fb with fb | fb | fb
      · subst fb; exact .inl qa2
      · exact S.base j b (m b fb)
      · rcases f b fb with h | ⟨k, _, h⟩
        · exact .inl (S.same.free h)
        · exact S.base k b h
    · rw [ins1_ne hj] at fb; exact S.base j b fb
  · by_cases hj : j = i
    · subst hj
      rw [ins1_same, List.mem_singleton] at hb
      subst hb
      exact ⟨by rw [ins1_same]; exact .inl rfl, qa2, fun k hk => by rw [ins1_ne hk]; exact qa3 k hk⟩
    · rw [ins1_ne hj] at hb
      have hb' := noOws_sub (al := al) j b hb
      obtain ⟨p1, p2, p3⟩ := S.own j b hb'
      refine ⟨by rw [ins1_ne hj]; exact p1, p2, fun k hk => ?_⟩
      by_cases hki : k = i
      · subst hki
        rw [ins1_same]
        rintro (fb | fb | fb)
        · subst fb; exact p3 k hk qa1
        · exact p3 k hk (m b fb)
        · rcases f b fb with h | ⟨q, hq, h⟩
          · exact S.trk j b p1 h
          · by_cases hqj : q = j
            · subst hqj; exact noOws_not hb hq
            · exact p3 q hqj h
      · rw [ins1_ne hki]; exact p3 k hk
  · by_cases hba : b = a
    · subst hba; exact ⟨_, upd_same, (fun _ z => by cases z), fun _ _ z => by cases z⟩
    · rw [upd_ne hba]
      by_cases hj : j = i
      · subst hj; rw [ins1_same, List.mem_singleton] at hb; exact absurd hb hba
      · rw [ins1_ne hj] at hb; exact y.kind j b hb
  · have hlen : (VL.chg i es al env).length = env.length := by unfold VL.chg; rw [List.length_set, frz_length]
    rw [hlen]
    by_cases hj : j = i
    · subst hj; exact hi
    · rw [ins1_ne hj] at fb; exact S.fin j b fb
end
def notIn (i : Nat) : List Nat → Bool
  | [] => true
  | j :: r => !(j == i) && notIn i r
theorem notIn_of : ∀ {i : Nat} {al : List Nat}, notIn i al = true → i ∉ al
  | _, [], _, h => by cases h
  | i, j :: r, h, z => by
    rw [notIn, Bool.and_eq_true, Bool.not_eq_true', beq_eq_false_iff_ne] at h
    rcases List.mem_cons.mp z with e | z
    · exact h.1 e.symm
    · exact notIn_of h.2 z
section
variable {X : Cx} {W : WX} {Cl : ClsT}
/-- x.append(e) -/
def vApp (i : Nat) (f : VE) : VS := fun env => match f env with
  | some r => match env[i]? with
    | some (some (fl, .lst ds)) => if (decide (1 ≤ fl) && notIn i r.al) && decide (ds.length < 16777216) then .nx (chg i (ds ++ [r.d]) r.al env) else .no
    | _ => .no
  | none => .no
theorem vs_append (i : Nat) {x : Str} {e : Expr} {p apos cpos pos : Pos} {f : VE} (h : VEok X Cl e f) (hN : X.N[i]? = some x := by rfl) (hv : Vis X.env.scope x := by first | exact Or.inl rfl | exact Or.inr (Or.inl rfl) | exact Or.inr (Or.inr rfl)) (hd : (x == ("__debug__" : Str)) = false := by decide)
    (hcd : (x == ("__classdict__" : Str)) = false := by decide) (hbase : attributeBase (.Name x p) "append" X.env (eval (.Name x p) X.env) = eval (.Name x p) X.env := by rfl)
    (hfew : ((backTo cpos (starEach [e] X.env)).all (fun x => !x.1) && (backToKw cpos (keywordEach [] X.env)).all (fun x => x.1.isSome) && decide ([e].length + ([] : List Keyword).length + (if ([] : List Keyword).isEmpty then 0 else 1) < 30)) = true := by rfl)
    (hline : (apos.endLine == cpos.line) = true := by rfl) (hs : starEach [e] X.env = (false, eval e X.env) :: starEach [] X.env := by rfl) (hplain : (backTo cpos (starEach [] X.env)).any (·.1) = false := by rfl)
    (hw : swapsWith (.Call (.Attribute (.Name x p) "append" apos) [e] [] cpos) none pos.line X.env = pure false := by rfl) :
    VSok X W Cl (.Expr (.Call (.Attribute (.Name x p) "append" apos) [e] [] cpos) pos) (vApp i f) := by
  obtain ⟨te, pe, qe⟩ := h
  refine ⟨_, ps_expr (pe_bm PySem.F.plainAttrs_list PySem.F.slot_list_append PySem.F.type_list_append mt_append (pe_var (i := i) hN hv hd hcd) (pa_cons pe pa_nil hs) hbase hfew hline hs hplain) hw, fun H0 G D σ H env Fs ow S k => ?_⟩
  unfold vApp at k
  split at k <;> (first | (exact k.elim; done) | skip)
  rename_i r er
  split at k <;> (first | (exact k.elim; done) | skip)
  rename_i fl ds ex
  split at k <;> (first | (exact k.elim; done) | skip)
  rename_i hc
  simp only [Bool.and_eq_true, decide_eq_true_eq] at hc
  obtain ⟨a, xs, F', h1, ha, ra, n, m, fa, hao⟩ := S.mine ex hc.1.1
  refine ⟨_, h1, .inl ⟨rfl, _, SqL.of ha⟩, ?_⟩
  refine qe _ _ _ _ _ _ _ _ _ S er fun v H1 s1 w1 => ?_
  obtain ⟨F, wo, q1, q2, q3, q4, q5⟩ := w1
  refine ⟨a, xs, v, rfl, rfl, s1 a _ ha, by rw [ra.length, sizeLine_eq]; exact hc.2, ?_⟩
  obtain ⟨Fs', ow', k1, k2⟩ := S.chg s1 ex h1 ha hao n m q2 q3 (notIn_of hc.1.2) (((ra.same s1).mono fun _ => .inl).append (.cons (q1.mono fun _ => .inr) .nil))
  exact k _ _ _ _ k1 k2
/-- x[j] = e -/
def vPut (i : Nat) (fj f : VE) : VS := fun env => match f env with
  | some r => match fj env with
    | some y => match y.d with
      | .int j => match env[i]? with
        | some (some (fl, .lst ds)) => match ixN ds.length j with
          | some m => if decide (1 ≤ fl) && notIn i r.al then .nx (chg i (ds.set m r.d) r.al env) else .no
          | none => .no
        | _ => .no
      | _ => .no
    | none => .no
  | none => .no
theorem vs_put (i : Nat) {x : Str} {e j : Expr} {p tpos pos : Pos} {f fj : VE} (h : VEok X Cl e f) (hj : VEok X Cl j fj) (hN : X.N[i]? = some x := by rfl) (hv : Vis X.env.scope x := by first | exact Or.inl rfl | exact Or.inr (Or.inl rfl) | exact Or.inr (Or.inr rfl)) (hd : (x == ("__debug__" : Str)) = false := by decide)
    (hcd : (x == ("__classdict__" : Str)) = false := by decide)
    (ha : ∀ v, assign (.Subscript (.Name x p) j tpos) X.env v = (do
      let ov ← holding [v] (eval (.Name x p) X.env)
      let iv ← holding [v, ov] (eval j X.env)
      standAt tpos
      holding [v, ov, iv] (setItem ov iv v)
      release [v, ov, iv] []) := by intro _; rfl)
    (hs : swapsWithSole [.Subscript (.Name x p) j tpos] e pos.line X.env = pure false := by rfl) (hw : swappedStores [.Subscript (.Name x p) j tpos] e X.env = pure none := by rfl)
    (h1 : (assignEach [.Subscript (.Name x p) j tpos] X.env).map (·.2) = [assign (.Subscript (.Name x p) j tpos) X.env] := by rfl) : VSok X W Cl (.Assign [.Subscript (.Name x p) j tpos] e pos) (vPut i fj f) := by
  obtain ⟨te, pe, qe⟩ := h
  obtain ⟨tj, pj, qj⟩ := hj
  refine ⟨_, ps_asg pe (pg_sub (pe_var (i := i) hN hv hd hcd) pj set_list ha) hs hw h1, fun H0 G D σ H env Fs ow S k => ?_⟩
  unfold vPut at k
  split at k <;> (first | (exact k.elim; done) | skip)
  rename_i r er
  split at k <;> (first | (exact k.elim; done) | skip)
  rename_i y ey
  split at k <;> (first | (exact k.elim; done) | skip)
  rename_i jj ejj
  split at k <;> (first | (exact k.elim; done) | skip)
  rename_i fl ds ex
  split at k <;> (first | (exact k.elim; done) | skip)
  rename_i mm em
  split at k <;> (first | (exact k.elim; done) | skip)
  rename_i hc
  simp only [Bool.and_eq_true, decide_eq_true_eq] at hc
  obtain ⟨a, xs, F', h1, ha, ra, n, m, fa, hao⟩ := S.mine ex hc.1
  refine qe _ _ _ _ _ _ _ _ _ S er fun v H1 s1 w1 => ⟨_, h1, qj _ _ _ _ _ _ _ _ _ (S.go s1) ey fun u H2 s2 w2 => ?_⟩
  have w3 := w1.same s2
  obtain ⟨F, wo, q1, q2, q3, q4, q5⟩ := w3
  have s12 := s1.trans s2
  refine ⟨a, xs, jj, mm, rfl, val_int w2 ejj, s12 a _ ha, by rw [ra.length]; exact em, ?_⟩
  obtain ⟨Fs', ow', k1, k2⟩ := S.chg s12 ex h1 ha hao n m q2 q3 (notIn_of hc.2) (Reps.set (q1.mono fun _ => .inr) mm ((ra.same s12).mono fun _ => .inl))
  exact k _ _ _ _ k1 k2
/-- x.insert(j, e) -/
def vIns (i : Nat) (g : VA) : VS := fun env => match g env with
  | some [y, r] => match y.d with
    | .int j => match env[i]? with
      | some (some (fl, .lst ds)) => if (decide (1 ≤ fl) && notIn i r.al) && (decide (ds.length < 16777216) && (decide (0 ≤ j) && decide (j < 16777216))) then .nx (chg i (ds.take j.toNat ++ [r.d] ++ ds.drop j.toNat) r.al env) else .no
      | _ => .no
    | _ => .no
  | _ => .no
theorem vs_insert (i : Nat) {x : Str} {e j : Expr} {p apos cpos pos : Pos} {g : VA} (h : VAok X Cl [j, e] g) (hN : X.N[i]? = some x := by rfl) (hv : Vis X.env.scope x := by first | exact Or.inl rfl | exact Or.inr (Or.inl rfl) | exact Or.inr (Or.inr rfl)) (hd : (x == ("__debug__" : Str)) = false := by decide)
    (hcd : (x == ("__classdict__" : Str)) = false := by decide) (hbase : attributeBase (.Name x p) "insert" X.env (eval (.Name x p) X.env) = eval (.Name x p) X.env := by rfl)
    (hfew : ((backTo cpos (starEach [j, e] X.env)).all (fun x => !x.1) && (backToKw cpos (keywordEach [] X.env)).all (fun x => x.1.isSome) && decide ([j, e].length + ([] : List Keyword).length + (if ([] : List Keyword).isEmpty then 0 else 1) < 30)) = true := by rfl)
    (hline : (apos.endLine == cpos.line) = true := by rfl) (hs : starEach [j, e] X.env = (false, eval j X.env) :: starEach [e] X.env := by rfl) (hplain : (backTo cpos (starEach [e] X.env)).any (·.1) = false := by rfl)
    (hw : swapsWith (.Call (.Attribute (.Name x p) "insert" apos) [j, e] [] cpos) none pos.line X.env = pure false := by rfl) :
    VSok X W Cl (.Expr (.Call (.Attribute (.Name x p) "insert" apos) [j, e] [] cpos) pos) (vIns i g) := by
  obtain ⟨te, pe, qe⟩ := h
  refine ⟨_, ps_expr (pe_bm PySem.F.plainAttrs_list PySem.F.slot_list_insert PySem.F.type_list_insert mt_insert (pe_var (i := i) hN hv hd hcd) pe hbase hfew hline hs hplain) hw, fun H0 G D σ H env Fs ow S k => ?_⟩
  unfold vIns at k
  split at k <;> (first | (exact k.elim; done) | skip)
  rename_i y r er
  split at k <;> (first | (exact k.elim; done) | skip)
  rename_i jj ejj
  split at k <;> (first | (exact k.elim; done) | skip)
  rename_i fl ds ex
  split at k <;> (first | (exact k.elim; done) | skip)
  rename_i hc
  simp only [Bool.and_eq_true, decide_eq_true_eq] at hc
  obtain ⟨a, xs, F', h1, ha, ra, n, m, fa, hao⟩ := S.mine ex hc.1.1
  refine ⟨_, h1, .inl ⟨rfl, _, SqL.of ha⟩, ?_⟩
  refine qe _ _ _ _ _ _ _ _ _ S er fun vs H2 s2 w => ?_
  obtain ⟨u, v, H1, rfl, sa, sb, w1, w2⟩ := vals_two w
  have w3 := w2.from sa
  obtain ⟨F, wo, q1, q2, q3, q4, q5⟩ := w3
  refine ⟨a, xs, jj, v, rfl, by rw [val_int w1 ejj], s2 a _ ha, by rw [ra.length, sizeLine_eq]; exact hc.2.1, hc.2.2.1, by omega, ?_⟩
  have rr := (ra.same s2).mono (F' := fun b => F' b ∨ F b) fun _ => .inl
  obtain ⟨Fs', ow', k1, k2⟩ := S.chg s2 ex h1 ha hao n m q2 q3 (notIn_of hc.1.2) (((rr.take jj.toNat).append (.cons (q1.mono fun _ => .inr) .nil)).append (rr.drop jj.toNat))
  exact k _ _ _ _ k1 k2
end
end VL

namespace VL
open PySem PySem.Spec L2 PyProof.Rows

/-! ### defs: what they promise -/
inductive Fr where
  | ok (d : D) (l : Nat) | ex (c : Nat) (fs : List (Str × D)) | no
abbrev CF := List D → Fr
def FrOk (K : PySem.W.Frag) (Cl : ClsT) (H : Hp) (G : ASet) (Q : VK) (E : XK) : Fr → Prop
  | .ok d l => ∀ v H', Same H H' → RetOk K Cl H H' G v d l → Q v H'
  | .ex c fs => ∀ cls d H', Same H H' → ExcIs K Cl H' cls d c fs → E cls d H'
  | .no => False
def spV (K : PySem.W.Frag) (Cl : ClsT) (n : Nat) (cf : CF) : Sp := fun vs H Q E => ∃ (ds : List D) (G : ASet), vs.length = n ∧ Reps K Cl H G vs ds ∧ (∀ a, G a → H a ≠ none) ∧ FrOk K Cl H G Q E (cf ds)
def env0 (N : Nat) (ds : List D) : Ev := ds.map (fun d => some (0, d)) ++ List.replicate (N - ds.length) none
/-- a def of N slots, n parameters, by its body -/
def vDef (N : Nat) (body : VS) : CF := fun ds => match body (env0 N ds) with
  | .ret d l => .ok d l
  | .nx _ => .ok .non 2
  | .ex _ c fs => .ex c fs
  | _ => .no
theorem StOk.init {K : PySem.W.Frag} {Cl : ClsT} {H : Hp} {G : ASet} {N : List Str} {vs : List V} {ds : List D} (r : Reps K Cl H G vs ds) (t : ∀ a, G a → H a ≠ none) (hn : vs.length ≤ N.length) :
    StOk K Cl H G (L2.start N vs) H (env0 N.length ds) (fun i a => i < N.length ∧ G a) (fun _ => []) := by
  have hl := r.length
  have hlen : (env0 N.length ds).length = N.length := by
    unfold env0
    rw [List.length_append, List.length_map, List.length_replicate]
    omega
  refine ⟨Same.refl _, ?_, fun i fl d e => ?_, fun i a f => t a f.2, fun i a f => .inr f.2, (fun i a h => by cases h), (fun i a h => by cases h), fun i a f => by rw [hlen]; exact f.1⟩
  · rw [hlen]
    unfold L2.start
    rw [List.length_append, List.length_map, List.length_replicate]
    omega
  · unfold env0 at e
    have hi : i < ds.length := by
      by_cases hi : i < ds.length
      · exact hi
      · rw [List.getElem?_append_right (by simpa using hi), List.getElem?_replicate] at e
        split at e <;> cases e
    rw [List.getElem?_append_left (by simpa using hi), List.getElem?_map] at e
    cases hd : ds[i]? with
    | none => rw [hd] at e; cases e
    | some d' =>
      rw [hd] at e
      cases e
      obtain ⟨v, h1, h2⟩ := r.get hd
      refine ⟨v, ?_, h2.mono fun a f => ⟨by omega, f⟩, .zero⟩
      unfold L2.start
      rw [List.getElem?_append_left (by rw [List.length_map]; omega), List.getElem?_map, h1]
      rfl
section
variable {P : Program} {w : World} {K : PySem.W.Frag} {mg : Str → Option Value} {base : Heap} {Cl : ClsT}
/-- the body of a def, in its context -/
abbrev bodyCx (P : Program) (w : World) (K : PySem.W.Frag) (mg : Str → Option Value) (base : Heap) (N : List Str) (qual : Str) (st : Stmt) (f : Addr) (cdv : Value) (A : Around) (outer : List Env) (s : Shared) (H : Hp) (E : XK) : Cx := cxOf (L2.CX P w) P w K mg base N qual (defScope st) f cdv A outer s H E
abbrev wE (E : XK) : WX := fun cls d _ H => E cls d H
theorem fn_v {x qual : Str} {st : Stmt} {f : Addr} {fd : FuncData} {N ps : List Str} {k n : Nat} {body : VS} (F : Fun K x qual st f fd) (S : FnScope N ps (defScope st)) (hn : ps.length = n)
    (hb : ∀ (cdv : Value) (A : Around) (outer : List Env) (s : Shared) (H : Hp) (E : XK), Room k (A.deeper (envOfC qual (defScope st) s.heap.objs.size f cdv)) → VBok (bodyCx P w K mg base N qual st f cdv A outer s H E) (wE E) Cl (defBody st) body) :
    FnOk P w K mg base (L2.CX P w) (k + 1) f fd ps (spV K Cl n (vDef N.length body)) := by
  have hpl : ps.length ≤ N.length := by have := congrArg List.length S.pre; rw [List.length_take] at this; omega
  refine F.okX S (fun vs H Q E h => ?_) (fun cdv A outer s H vs Q E hr h => ?_)
  · obtain ⟨ds, G, h1, _⟩ := h
    rw [h1, hn]
  · obtain ⟨ds, G, h1, r, t, fr⟩ := h
    obtain ⟨tt, p, q⟩ := hb cdv A outer s H E hr
    refine ⟨tt, p, q H G _ _ _ _ _ _ (StOk.init r t (by omega)) ?_⟩
    unfold vDef at fr
    cases e : body (env0 N.length ds) with
    | nx e1 =>
      rw [e] at fr
      exact fun σ' H' Fs' ow' s' x => fr _ H' x.same ⟨fun _ => False, [], .non, fun _ f => f.elim, fun _ f => f.elim, .pure rfl, fun _ z => by cases z⟩
    | bk e1 => rw [e] at fr; exact fr.elim
    | ct e1 => rw [e] at fr; exact fr.elim
    | ret d l =>
      rw [e] at fr
      exact fun v H' kp x => fr v H' (fun a o eo => kp a o eo fun ⟨_, z⟩ => by cases z) x
    | ex e1 c fs =>
      rw [e] at fr
      exact fun σ' H' Fs' ow' cls d s' x y => fr cls d H' x.same y
    | no => rw [e] at fr; exact fr.elim
end

/-! ### calls of one's own -/
section
variable {X : Cx} {Cl : ClsT}
def frRv (al : List Nat) : Fr → Option Rv
  | .ok d l => some (nrm ⟨d, l, al⟩)
  | _ => none
def vCallF (cf : CF) (a : VA) : VE := fun env => match a env with
  | some rs => frRv (alOf rs) (cf (dsOf rs))
  | none => none
theorem ret_val {K : PySem.W.Frag} {Hs H H' : Hp} {Fs : Nat → ASet} {G : ASet} {al : List Nat} {v : V} {d : D} {l : Nat} (s : Same Hs H) (hG : ∀ a, G a → Hs a = none ∨ ∃ j ∈ al, Fs j a) (w : RetOk K Cl H H' G v d l) : ValOk K Cl Hs H' Fs v ⟨d, l, al⟩ := by
  obtain ⟨F, wo, h1, h2, h3, h4, h5⟩ := w
  exact ⟨F, wo, h1, h2, fun a f => (h3 a f).elim (fun h => .inl (s.free h)) (hG a), h4, fun a ha => s.free (h5 a ha)⟩
theorem ve_call {x : Str} {p pos : Pos} {e : Expr} {es : List Expr} {k n : Nat} {f : Addr} {fd : FuncData} {ps : List Str} {cf : CF} {fa : VA} (F : FnOk X.prog X.w X.K X.mg X.base (L2.CX X.prog X.w) k f fd ps (spV X.K Cl n cf)) (hr : Room k X.A) (hm : X.mg x = some (.ref f)) (hk : PySem.W.keepIn X.K (.ref f) = true) (hb : Binds X.K fd ps [])
    (hn : (e :: es).length = n) (ha : VAok X Cl (e :: es) fa) (hl : ∀ env rs, fa env = some rs → rs.length = n) (hg : Gl X x := by rfl)
    (hdb : (x == ("__debug__" : Str)) = false := by decide) (he : starEach (e :: es) X.env = (false, eval e X.env) :: starEach es X.env := by rfl) (hpl : (backTo pos (starEach es X.env)).any (·.1) = false := by rfl) : VEok X Cl (.Call (.Name x p) (e :: es) [] pos) (vCallF cf fa) := by
  obtain ⟨ta, pa, qa⟩ := ha
  refine ⟨_, pe_call F hr hg hm hk hb .nil passL pa hdb he hpl, fun H0 G σ H env Fs ow r Q S er kk => ?_⟩
  unfold vCallF at er
  split at er <;> (first | (cases er; done) | skip)
  rename_i rs ers
  refine qa _ _ _ _ _ _ _ _ _ S ers fun vs H1 s1 w1 => ?_
  obtain ⟨F1, r1, t1, f1⟩ := w1.reps
  refine ⟨dsOf rs, F1, ?_, by rw [List.append_nil]; exact r1, t1, ?_⟩
  · rw [List.append_nil, w1.length]; exact hl _ _ ers
  · cases ec : cf (dsOf rs) with
    | ok d l =>
      rw [ec] at er
      cases er
      exact fun v H' s2 w2 => kk v H' (s1.trans s2) (.nrm (ret_val s1 f1 w2))
    | ex c fs => rw [ec] at er; cases er
    | no => rw [ec] at er; cases er
theorem len_nil : ∀ (env : Ev) rs, (fun _ : Ev => (some [] : Option (List Rv))) env = some rs → rs.length = 0 := fun _ _ e => by cases e; rfl
theorem len_cons {f : VE} {g : VA} {n : Nat} (h : ∀ env rs, g env = some rs → rs.length = n) : ∀ env rs, vCons f g env = some rs → rs.length = n + 1 := fun env rs e => by
  unfold vCons at e
  split at e <;> (first | (cases e; done) | skip)
  split at e <;> (first | (cases e; done) | skip)
  rename_i xs exs
  cases e
  rw [List.length_cons, h _ _ exs]
end
end VL
namespace VL
open PySem PySem.Spec L2 PyProof.Rows
/-- a def of the text by its name -/
def FnH (P : Program) (w : World) (K : PySem.W.Frag) (mg : Str → Option Value) (base : Heap) (Cl : ClsT) (k n : Nat) (x : Str) (ps : List Str) (cf : CF) : Prop :=
  ∃ f fd, mg x = some (.ref f) ∧ PySem.W.keepIn K (.ref f) = true ∧ Binds K fd ps [] ∧ FnOk P w K mg base (L2.CX P w) k f fd ps (spV K Cl n cf)
theorem room65 {k : Nat} {A : Around} (r : Room k A) : A.units + 65 < cLine := by have := r.un; omega
theorem ve_callH {X : Cx} {Cl : ClsT} {x : Str} {p pos : Pos} {e : Expr} {es : List Expr} {k n : Nat} {ps : List Str} {cf : CF} {fa : VA} (F : FnH X.prog X.w X.K X.mg X.base Cl k n x ps cf) (hr : Room k X.A)
    (hn : (e :: es).length = n) (ha : VAok X Cl (e :: es) fa) (hl : ∀ env rs, fa env = some rs → rs.length = n) (hg : Gl X x := by rfl)
    (hdb : (x == ("__debug__" : Str)) = false := by decide) (he : starEach (e :: es) X.env = (false, eval e X.env) :: starEach es X.env := by rfl) (hpl : (backTo pos (starEach es X.env)).any (·.1) = false := by rfl) : VEok X Cl (.Call (.Name x p) (e :: es) [] pos) (vCallF cf fa) := by
  obtain ⟨f, fd, hm, hk, hb, G⟩ := F
  exact ve_call G hr hm hk hb hn ha hl hg hdb he hpl
end VL

namespace VL
open PySem PySem.Spec L2 PyProof.Rows

/-! ### max and min of a tuple of ints -/
section
variable {prog : Program} {w : World} {A : Around} {E : Value → Shared → Prop} {s : Shared} {l : Addr} {xs : Array (Int × Tok)}
theorem iter_intTuple {Q : Value → Shared → Prop} (hl : s.heap.IsTuple l (intItems xs))
    (h : ∀ s₂ : Shared, s₂ = { s with heap := s.heap.push { cls := .type "tuple_iterator", data := .fields #[.ref l, .int 0 0] } } →
      (s₂.heap.IsTupleIter s.heap.objs.size l 0 ∧ s₂.heap.IsTuple l (intItems xs)) → (∀ b ∈ [s.heap.objs.size, l], b < s₂.heap.objs.size) → l ≠ s.heap.objs.size → Q (.ref s.heap.objs.size) s₂) :
    wpAny (model prog w) A (pyIter (.ref l)) Q E s := by
  have hlt : l < s.heap.objs.size := by obtain ⟨_, e, _⟩ := hl; exact Heap.lt_size e
  refine wpAny_pyIter_tuple hl (h _ rfl ⟨⟨_, Heap.get?_push_size _ rfl, rfl, rfl⟩, hl.at fun o e => Heap.get?_push_of_some _ e⟩ (fun b hb => ?_) (Nat.ne_of_lt hlt))
  show b < (s.heap.push _).objs.size
  rw [Heap.size_push]
  rcases List.mem_cons.mp hb with rfl | hb
  · exact Nat.lt_succ_self _
  · rcases List.mem_cons.mp hb with rfl | hb
    · exact Nat.lt_succ_of_lt hlt
    · cases hb
theorem old_keptT {h' : Heap} (hk : ∀ b o, b ∉ [s.heap.objs.size] → (s.heap.push { cls := .type "tuple_iterator", data := .fields #[.ref l, .int 0 0] }).get? b = some o → h'.get? b = some o) :
    ∀ b o, s.heap.get? b = some o → h'.get? b = some o := fun b o e => by
  refine hk b o (fun hm => ?_) (Heap.get?_push_of_some _ e)
  rcases List.mem_cons.mp hm with e1 | hm
  · exact absurd (e1 ▸ Heap.lt_size e) (Nat.lt_irrefl _)
  · cases hm
theorem max_intTuple {Q : Value → Shared → Prop} (hh : A.handled = none) (hl : s.heap.IsTuple l (intItems xs)) (hne : 0 < xs.size)
    (h : ∀ v h' tk, (intItems xs)[argBest (fun i j => decide (numAt xs i > numAt xs j)) (xs.size - 1)]? = some v → (∀ b o, s.heap.get? b = some o → h'.get? b = some o) → Q v { s with heap := h', toks := tk }) :
    wpAny (model prog w) A (call (.builtin "max") [.ref l]) Q E s := by
  refine call_max_walk (iter_intTuple hl fun s₂ e st hfp hlI => ?_)
  subst e
  refine ⟨_, _, _, _, _, _, _, rfl, Walks.tuple (A := A.in1) hh _ l hlI (intItems xs), st, hfp, by simpa [intItems] using hne, CmpOf.ints_gt (numAt xs) (fun _ _ => intItems_at), fun v h' tk hP hk => ?_⟩
  exact h v h' tk (by simpa [intItems] using hP) (old_keptT hk)
theorem min_intTuple {Q : Value → Shared → Prop} (hh : A.handled = none) (hl : s.heap.IsTuple l (intItems xs)) (hne : 0 < xs.size)
    (h : ∀ v h' tk, (intItems xs)[argBest (fun i j => decide (numAt xs i < numAt xs j)) (xs.size - 1)]? = some v → (∀ b o, s.heap.get? b = some o → h'.get? b = some o) → Q v { s with heap := h', toks := tk }) :
    wpAny (model prog w) A (call (.builtin "min") [.ref l]) Q E s := by
  refine call_min_walk (iter_intTuple hl fun s₂ e st hfp hlI => ?_)
  subst e
  refine ⟨_, _, _, _, _, _, _, rfl, Walks.tuple (A := A.in1) hh _ l hlI (intItems xs), st, hfp, by simpa [intItems] using hne, CmpOf.ints_lt (numAt xs) (fun _ _ => intItems_at), fun v h' tk hP hk => ?_⟩
  exact h v h' tk (by simpa [intItems] using hP) (old_keptT hk)
theorem max_rawT {its : List Value} {ns : List Int} {Q : Value → Shared → Prop} (hh : A.handled = none) (hl : s.heap.IsTuple l its.toArray) (hi : IntsAre its ns) (hne : 0 < ns.length)
    (h : ∀ h' tk M t', (∀ b o, s.heap.get? b = some o → h'.get? b = some o) → M ∈ ns → (∀ a, a ∈ ns → a ≤ M) → Q (.int M t') { s with heap := h', toks := tk }) : wpAny (model prog w) A (call (.builtin "max") [.ref l]) Q E s := by
  obtain ⟨xs, e⟩ := hi.allInts.items
  have hn : numsOf (intItems xs).toList = ns := by rw [← e]; exact hi.numsOf
  rw [nums_intItems] at hn
  subst hn
  rw [e] at hl
  have hsz : 0 < xs.size := by simpa using hne
  refine max_intTuple hh hl hsz fun v h' tk hv hk => ?_
  obtain ⟨t, rfl⟩ := intItems_at hv
  obtain ⟨h1, h2⟩ := argBest_gt (numAt xs) (xs.size - 1)
  refine h h' tk _ t hk ?_ fun a ha => ?_
  · rw [numAt_eq]; exact PySem.getD_mem (by rw [List.length_map, Array.length_toList]; omega)
  · obtain ⟨j, hj, rfl⟩ := mem_getD ha
    rw [List.length_map, Array.length_toList] at hj
    rw [← numAt_eq]; exact h2 j (by omega)
theorem min_rawT {its : List Value} {ns : List Int} {Q : Value → Shared → Prop} (hh : A.handled = none) (hl : s.heap.IsTuple l its.toArray) (hi : IntsAre its ns) (hne : 0 < ns.length)
    (h : ∀ h' tk M t', (∀ b o, s.heap.get? b = some o → h'.get? b = some o) → M ∈ ns → (∀ a, a ∈ ns → M ≤ a) → Q (.int M t') { s with heap := h', toks := tk }) : wpAny (model prog w) A (call (.builtin "min") [.ref l]) Q E s := by
  obtain ⟨xs, e⟩ := hi.allInts.items
  have hn : numsOf (intItems xs).toList = ns := by rw [← e]; exact hi.numsOf
  rw [nums_intItems] at hn
  subst hn
  rw [e] at hl
  have hsz : 0 < xs.size := by simpa using hne
  refine min_intTuple hh hl hsz fun v h' tk hv hk => ?_
  obtain ⟨t, rfl⟩ := intItems_at hv
  obtain ⟨h1, h2⟩ := argBest_lt (numAt xs) (xs.size - 1)
  refine h h' tk _ t hk ?_ fun a ha => ?_
  · rw [numAt_eq]; exact PySem.getD_mem (by rw [List.length_map, Array.length_toList]; omega)
  · obtain ⟨j, hj, rfl⟩ := mem_getD ha
    rw [List.length_map, Array.length_toList] at hj
    rw [← numAt_eq]; exact h2 j (by omega)
end

/-! ### data of one kind -/
def intsD : List D → Option (List Int)
  | [] => some []
  | .int i :: r => match intsD r with
    | some xs => some (i :: xs)
    | none => none
  | _ :: _ => none
def blsD : List D → Option (List Bool)
  | [] => some []
  | .bl i :: r => match blsD r with
    | some xs => some (i :: xs)
    | none => none
  | _ :: _ => none
theorem intsD_map : ∀ ns : List Int, intsD (ns.map D.int) = some ns
  | [] => rfl
  | n :: ns => by rw [List.map_cons, intsD, intsD_map ns]
theorem blsD_map : ∀ ns : List Bool, blsD (ns.map D.bl) = some ns
  | [] => rfl
  | n :: ns => by rw [List.map_cons, blsD, blsD_map ns]
theorem intsD_of : ∀ {ds : List D} {ns : List Int}, intsD ds = some ns → ds = ns.map D.int
  | [], ns, e => by cases e; rfl
  | d :: r, ns, e => by
    cases d <;> first | (cases e; done) | skip
    rw [intsD] at e
    split at e <;> (first | (cases e; done) | skip)
    rename_i xs ex
    cases e
    rw [List.map_cons, intsD_of ex]
theorem blsD_of : ∀ {ds : List D} {ns : List Bool}, blsD ds = some ns → ds = ns.map D.bl
  | [], ns, e => by cases e; rfl
  | d :: r, ns, e => by
    cases d <;> first | (cases e; done) | skip
    rw [blsD] at e
    split at e <;> (first | (cases e; done) | skip)
    rename_i xs ex
    cases e
    rw [List.map_cons, blsD_of ex]
section
variable {K : PySem.W.Frag} {Cl : ClsT} {H : Hp} {F : ASet}
theorem reps_intsV : ∀ {ns : List Int} {xs : List V}, Reps K Cl H F xs (ns.map D.int) → xs = ns.map V.int
  | [], _, h => by cases h; rfl
  | n :: ns, _, h => by
    cases h with
    | cons a b => rw [List.map_cons, a.int_of, reps_intsV b]
theorem reps_blsV : ∀ {ns : List Bool} {xs : List V}, Reps K Cl H F xs (ns.map D.bl) → xs = ns.map V.bl
  | [], _, h => by cases h; rfl
  | n :: ns, _, h => by
    cases h with
    | cons a b => rw [List.map_cons, a.bl_of, reps_blsV b]
end
section
variable {X : Cx} {Cl : ClsT}
/-! ### sum, all, any, max, min -/
def gSum : Rv → Option Rv := fun x => match x.d with
  | .lst ds => match intsD ds with
    | some ns => some ⟨.int ns.sum, 2, []⟩
    | none => none
  | _ => none
theorem cv_sum : CallV1 X Cl (rSum X.K) gSum := by
  intro Hs H Fs v x rr Q s w e k
  unfold gSum at e
  split at e <;> (first | (cases e; done) | skip)
  rename_i ds ed
  split at e <;> (first | (cases e; done) | skip)
  rename_i ns en
  cases e
  obtain ⟨F, r1⟩ := w.rep
  rw [ed, intsD_of en] at r1
  obtain ⟨a, us, rfl, ha, _, ra⟩ := r1.lst_of
  rw [reps_intsV ra] at ha
  exact ⟨a, ns, rfl, SqL.of ha, k _ _ (Same.refl _) (.pureV (.int _) rfl)⟩
def gAll : Rv → Option Rv := fun x => match x.d with
  | .lst ds => match blsD ds with
    | some ns => some ⟨.bl (ns.all id), 2, []⟩
    | none => none
  | _ => none
theorem cv_all : CallV1 X Cl (rAll X.K) gAll := by
  intro Hs H Fs v x rr Q s w e k
  unfold gAll at e
  split at e <;> (first | (cases e; done) | skip)
  rename_i ds ed
  split at e <;> (first | (cases e; done) | skip)
  rename_i ns en
  cases e
  obtain ⟨F, r1⟩ := w.rep
  rw [ed, blsD_of en] at r1
  obtain ⟨a, us, rfl, ha, _, ra⟩ := r1.lst_of
  rw [reps_blsV ra] at ha
  exact ⟨a, ns, rfl, SqL.of ha, k _ _ (Same.refl _) (.pureV (.bl _) rfl)⟩
def gAny : Rv → Option Rv := fun x => match x.d with
  | .lst ds => match blsD ds with
    | some ns => some ⟨.bl (ns.any id), 2, []⟩
    | none => none
  | _ => none
theorem cv_any : CallV1 X Cl (rAny X.K) gAny := by
  intro Hs H Fs v x rr Q s w e k
  unfold gAny at e
  split at e <;> (first | (cases e; done) | skip)
  rename_i ds ed
  split at e <;> (first | (cases e; done) | skip)
  rename_i ns en
  cases e
  obtain ⟨F, r1⟩ := w.rep
  rw [ed, blsD_of en] at r1
  obtain ⟨a, us, rfl, ha, _, ra⟩ := r1.lst_of
  rw [reps_blsV ra] at ha
  exact ⟨a, ns, rfl, SqL.of ha, k _ _ (Same.refl _) (.pureV (.bl _) rfl)⟩
def maxL : Int → List Int → Int
  | m, [] => m
  | m, x :: r => maxL (if m < x then x else m) r
def minL : Int → List Int → Int
  | m, [] => m
  | m, x :: r => minL (if x < m then x else m) r
theorem maxL_ge : ∀ (r : List Int) (m : Int), m ≤ maxL m r ∧ (∀ x ∈ r, x ≤ maxL m r) ∧ (maxL m r = m ∨ maxL m r ∈ r)
  | [], m => ⟨Int.le_refl _, (fun _ h => by cases h), .inl rfl⟩
  | x :: r, m => by
    obtain ⟨h1, h2, h3⟩ := maxL_ge r (if m < x then x else m)
    rw [maxL]
    refine ⟨?_, fun y hy => ?_, ?_⟩
    · split at h1 <;> rename_i h <;> first | (rw [if_pos h]; omega) | (rw [if_neg h]; omega)
    · rcases List.mem_cons.mp hy with rfl | hy
      · split at h1 <;> rename_i h <;> first | (rw [if_pos h]; omega) | (rw [if_neg h]; omega)
      · exact h2 y hy
    · rcases h3 with h3 | h3
      · by_cases h : m < x
        · rw [if_pos h] at h3 ⊢; exact .inr (by rw [h3]; exact List.mem_cons_self)
        · rw [if_neg h] at h3 ⊢; exact .inl h3
      · exact .inr (List.mem_cons_of_mem _ h3)
theorem minL_le : ∀ (r : List Int) (m : Int), minL m r ≤ m ∧ (∀ x ∈ r, minL m r ≤ x) ∧ (minL m r = m ∨ minL m r ∈ r)
  | [], m => ⟨Int.le_refl _, (fun _ h => by cases h), .inl rfl⟩
  | x :: r, m => by
    obtain ⟨h1, h2, h3⟩ := minL_le r (if x < m then x else m)
    rw [minL]
    refine ⟨?_, fun y hy => ?_, ?_⟩
    · split at h1 <;> rename_i h <;> first | (rw [if_pos h]; omega) | (rw [if_neg h]; omega)
    · rcases List.mem_cons.mp hy with rfl | hy
      · split at h1 <;> rename_i h <;> first | (rw [if_pos h]; omega) | (rw [if_neg h]; omega)
      · exact h2 y hy
    · rcases h3 with h3 | h3
      · by_cases h : x < m
        · rw [if_pos h] at h3 ⊢; exact .inr (by rw [h3]; exact List.mem_cons_self)
        · rw [if_neg h] at h3 ⊢; exact .inl h3
      · exact .inr (List.mem_cons_of_mem _ h3)
theorem max_uniq {m x : Int} {r : List Int} (h1 : m ∈ x :: r) (h2 : ∀ y ∈ x :: r, y ≤ m) : m = maxL x r := by
  obtain ⟨a, b, c⟩ := maxL_ge r x
  have hm : m ≤ maxL x r := by
    rcases List.mem_cons.mp h1 with h | h
    · rw [h]; exact a
    · exact b m h
  have hx : maxL x r ≤ m := by
    rcases c with c | c
    · rw [c]; exact h2 x List.mem_cons_self
    · exact h2 _ (List.mem_cons_of_mem _ c)
  omega
theorem min_uniq {m x : Int} {r : List Int} (h1 : m ∈ x :: r) (h2 : ∀ y ∈ x :: r, m ≤ y) : m = minL x r := by
  obtain ⟨a, b, c⟩ := minL_le r x
  have hm : minL x r ≤ m := by
    rcases List.mem_cons.mp h1 with h | h
    · rw [h]; exact a
    · exact b m h
  have hx : m ≤ minL x r := by
    rcases c with c | c
    · rw [c]; exact h2 x List.mem_cons_self
    · exact h2 _ (List.mem_cons_of_mem _ c)
  omega
def itemsOf : D → Option (List D)
  | .lst ds => some ds
  | .tup ds => some ds
  | _ => none
def gMax1 : Rv → Option Rv := fun x => match itemsOf x.d with
  | some ds => match intsD ds with
    | some (n :: ns) => some ⟨.int (maxL n ns), 2, []⟩
    | _ => none
  | none => none
def gMin1 : Rv → Option Rv := fun x => match itemsOf x.d with
  | some ds => match intsD ds with
    | some (n :: ns) => some ⟨.int (minL n ns), 2, []⟩
    | _ => none
  | none => none
def rMaxT (K : PySem.W.Frag) : List V → Hp → VK → Prop := fun vs H Q => ∃ (a : Addr) (ns : List Int), vs = [V.ref a] ∧ SqT K H a (ns.map V.int) ∧ 0 < ns.length ∧ ∀ m, m ∈ ns → (∀ y, y ∈ ns → y ≤ m) → Q (.int m) H
def rMinT (K : PySem.W.Frag) : List V → Hp → VK → Prop := fun vs H Q => ∃ (a : Addr) (ns : List Int), vs = [V.ref a] ∧ SqT K H a (ns.map V.int) ∧ 0 < ns.length ∧ ∀ m, m ∈ ns → (∀ y, y ∈ ns → m ≤ y) → Q (.int m) H
theorem cr_maxT (hc : X.calm = true) : CallR X (.builtin "max") (rMaxT X.K) := by
  intro pins s σ H vs us Q I r h
  obtain ⟨a, ns, rfl, hs, hne, q⟩ := h
  obtain ⟨its, rv, hl, _⟩ := I.tuple hs
  rw [Vals.ref1 r]
  exact max_rawT (I.ok.hd hc) (show s.heap.IsTuple a its.toArray from hl) rv.ints hne fun h' tk m t' hk h1 h2 => ⟨.int _, H, I.kept hk, ⟨_, rfl⟩, q m h1 h2⟩
theorem cr_minT (hc : X.calm = true) : CallR X (.builtin "min") (rMinT X.K) := by
  intro pins s σ H vs us Q I r h
  obtain ⟨a, ns, rfl, hs, hne, q⟩ := h
  obtain ⟨its, rv, hl, _⟩ := I.tuple hs
  rw [Vals.ref1 r]
  exact min_rawT (I.ok.hd hc) (show s.heap.IsTuple a its.toArray from hl) rv.ints hne fun h' tk m t' hk h1 h2 => ⟨.int _, H, I.kept hk, ⟨_, rfl⟩, q m h1 h2⟩
theorem seq_ints {K : PySem.W.Frag} {Hs H : Hp} {Fs : Nat → ASet} {v : V} {x : Rv} {ds : List D} {ns : List Int} (w : ValOk K Cl Hs H Fs v x) (e1 : itemsOf x.d = some ds) (e2 : intsD ds = some ns) : ∃ a, v = .ref a ∧ (SqL K H a (ns.map V.int) ∨ SqT K H a (ns.map V.int)) := by
  obtain ⟨F, r1⟩ := w.rep
  cases hd : x.d <;> rw [hd] at e1 r1 <;> first | (cases e1; done) | skip
  · cases e1
    rw [intsD_of e2] at r1
    obtain ⟨a, us, rfl, ha, _, ra⟩ := r1.lst_of
    rw [reps_intsV ra] at ha
    exact ⟨a, rfl, .inl (SqL.of ha)⟩
  · cases e1
    rw [intsD_of e2] at r1
    obtain ⟨a, us, rfl, ha, ra⟩ := r1.tup_of
    rw [reps_intsV ra] at ha
    exact ⟨a, rfl, .inr ha⟩
theorem cv_max1 : CallV1 X Cl (fun vs H Q => rMax X.K vs H Q ∨ rMaxT X.K vs H Q) gMax1 := by
  intro Hs H Fs v x rr Q s w e k
  unfold gMax1 at e
  split at e <;> (first | (cases e; done) | skip)
  rename_i ds ed
  split at e <;> (first | (cases e; done) | skip)
  rename_i n ns en
  cases e
  have fin : ∀ m, m ∈ n :: ns → (∀ y, y ∈ n :: ns → y ≤ m) → Q (.int m) H := fun m h1 h2 => by
    rw [max_uniq h1 h2]; exact k _ _ (Same.refl _) (.pureV (.int _) rfl)
  obtain ⟨a, rfl, h | h⟩ := seq_ints w ed en
  · exact .inl ⟨a, n :: ns, rfl, h, Nat.succ_pos _, fin⟩
  · exact .inr ⟨a, n :: ns, rfl, h, Nat.succ_pos _, fin⟩
theorem cv_min1 : CallV1 X Cl (fun vs H Q => rMin X.K vs H Q ∨ rMinT X.K vs H Q) gMin1 := by
  intro Hs H Fs v x rr Q s w e k
  unfold gMin1 at e
  split at e <;> (first | (cases e; done) | skip)
  rename_i ds ed
  split at e <;> (first | (cases e; done) | skip)
  rename_i n ns en
  cases e
  have fin : ∀ m, m ∈ n :: ns → (∀ y, y ∈ n :: ns → m ≤ y) → Q (.int m) H := fun m h1 h2 => by
    rw [min_uniq h1 h2]; exact k _ _ (Same.refl _) (.pureV (.int _) rfl)
  obtain ⟨a, rfl, h | h⟩ := seq_ints w ed en
  · exact .inl ⟨a, n :: ns, rfl, h, Nat.succ_pos _, fin⟩
  · exact .inr ⟨a, n :: ns, rfl, h, Nat.succ_pos _, fin⟩
def g2I (g : Int → Int → Int) : List Rv → Option Rv
  | [x, y] => match x.d, y.d with
    | .int i, .int j => some ⟨.int (g i j), 2, []⟩
    | _, _ => none
  | _ => none
theorem cv_2I {g : Int → Int → Int} : CallV X Cl (fun xs H Q => ∃ i j, xs = [V.int i, V.int j] ∧ Q (.int (g i j)) H) (g2I g) := by
  intro Hs H Fs vs rs rr Q s w e k
  unfold g2I at e
  split at e <;> (first | (cases e; done) | skip)
  rename_i x y
  split at e <;> (first | (cases e; done) | skip)
  rename_i i j e1 e2
  cases e
  obtain ⟨v, u, H1, rfl, _, _, w1, w2⟩ := vals_two w
  exact ⟨i, j, by rw [val_int w1 e1, val_int w2 e2], k _ _ (Same.refl _) (.pureV (.int _) rfl)⟩
/-! ### tuple(..), list(..) -/
def gTuple : Rv → Option Rv := fun x => match itemsOf x.d with
  | some ds => some (nrm ⟨.tup ds, 0, x.al⟩)
  | none => none
theorem cv_tuple : CallV1 X Cl (fun xs H Q => ∃ p ys, xs = [V.ref p] ∧ ((SqL X.K H p ys ∧ ∀ l, H l = none → Q (.ref l) (upd H l (.tup ys))) ∨ (SqT X.K H p ys ∧ Q (.ref p) H))) gTuple := by
  intro Hs H Fs v x rr Q s w e k
  unfold gTuple at e
  split at e <;> (first | (cases e; done) | skip)
  rename_i ds ed
  cases e
  obtain ⟨F, _, r1, t, f, _⟩ := w
  cases hd : x.d <;> rw [hd] at ed r1 <;> first | (cases ed; done) | skip
  · cases ed
    obtain ⟨a, us, rfl, ha, _, ra⟩ := r1.lst_of
    exact ⟨a, us, rfl, .inl ⟨SqL.of ha, fun l hl => k _ _ (same_upd hl) (new_tup ra t f hl)⟩⟩
  · cases ed
    obtain ⟨a, us, rfl, ha, ra⟩ := r1.tup_of
    exact ⟨a, us, rfl, .inr ⟨ha, k _ _ (Same.refl _) (.nrm ⟨F, [], .tup ha ra, t, f, .zero, fun _ z => by cases z⟩)⟩⟩
def gList : Rv → Option Rv := fun x => match itemsOf x.d with
  | some ds => some (mkL ds x.al)
  | none => none
theorem cv_list : CallV1 X Cl (fun xs H Q => ∃ p ys, xs = [V.ref p] ∧ (SqL X.K H p ys ∨ SqT X.K H p ys) ∧ ∀ l, H l = none → Q (.ref l) (upd H l (.lst ys))) gList := by
  intro Hs H Fs v x rr Q s w e k
  unfold gList at e
  split at e <;> (first | (cases e; done) | skip)
  rename_i ds ed
  cases e
  obtain ⟨F, _, r1, t, f, _⟩ := w
  cases hd : x.d <;> rw [hd] at ed r1 <;> first | (cases ed; done) | skip
  · cases ed
    obtain ⟨a, us, rfl, ha, _, ra⟩ := r1.lst_of
    exact ⟨a, us, rfl, .inl (SqL.of ha), fun l hl => k _ _ (same_upd hl) (new_list s ra t f hl)⟩
  · cases ed
    obtain ⟨a, us, rfl, ha, ra⟩ := r1.tup_of
    exact ⟨a, us, rfl, .inr ha, fun l hl => k _ _ (same_upd hl) (new_list s ra t f hl)⟩

/-! ### the rules by name -/
variable {p pos : Pos} {e e2 : Expr} {fa : VA}
theorem ve_sum (hc : X.calm = true) (hm : X.mg "sum" = none) (ha : VAok X Cl [e] fa) (hg : Gl X "sum" := by rfl) (he : starEach [e] X.env = (false, eval e X.env) :: starEach [] X.env := by rfl) (hpl : (backTo pos (starEach [] X.env)).any (·.1) = false := by rfl) :
    VEok X Cl (.Call (.Name "sum" p) [e] [] pos) (vCall (g1 gSum) fa) := ve_callB (cr_sum hc) cv_sum.all hm ha (by decide +kernel) hg (by decide) (by decide) he hpl
theorem ve_all (hc : X.calm = true) (hm : X.mg "all" = none) (ha : VAok X Cl [e] fa) (hg : Gl X "all" := by rfl) (he : starEach [e] X.env = (false, eval e X.env) :: starEach [] X.env := by rfl) (hpl : (backTo pos (starEach [] X.env)).any (·.1) = false := by rfl) :
    VEok X Cl (.Call (.Name "all" p) [e] [] pos) (vCall (g1 gAll) fa) := ve_callB (cr_all hc) cv_all.all hm ha (by decide +kernel) hg (by decide) (by decide) he hpl
theorem ve_any (hc : X.calm = true) (hm : X.mg "any" = none) (ha : VAok X Cl [e] fa) (hg : Gl X "any" := by rfl) (he : starEach [e] X.env = (false, eval e X.env) :: starEach [] X.env := by rfl) (hpl : (backTo pos (starEach [] X.env)).any (·.1) = false := by rfl) :
    VEok X Cl (.Call (.Name "any" p) [e] [] pos) (vCall (g1 gAny) fa) := ve_callB (cr_any hc) cv_any.all hm ha (by decide +kernel) hg (by decide) (by decide) he hpl
theorem ve_max1 (hc : X.calm = true) (hm : X.mg "max" = none) (ha : VAok X Cl [e] fa) (hg : Gl X "max" := by rfl) (he : starEach [e] X.env = (false, eval e X.env) :: starEach [] X.env := by rfl) (hpl : (backTo pos (starEach [] X.env)).any (·.1) = false := by rfl) :
    VEok X Cl (.Call (.Name "max" p) [e] [] pos) (vCall (g1 gMax1) fa) := ve_callB ((cr_max hc).or (cr_maxT hc)) cv_max1.all hm ha (by decide +kernel) hg (by decide) (by decide) he hpl
theorem ve_min1 (hc : X.calm = true) (hm : X.mg "min" = none) (ha : VAok X Cl [e] fa) (hg : Gl X "min" := by rfl) (he : starEach [e] X.env = (false, eval e X.env) :: starEach [] X.env := by rfl) (hpl : (backTo pos (starEach [] X.env)).any (·.1) = false := by rfl) :
    VEok X Cl (.Call (.Name "min" p) [e] [] pos) (vCall (g1 gMin1) fa) := ve_callB ((cr_min hc).or (cr_minT hc)) cv_min1.all hm ha (by decide +kernel) hg (by decide) (by decide) he hpl
theorem ve_max2 (hc : X.calm = true) (hm : X.mg "max" = none) (ha : VAok X Cl [e, e2] fa) (hg : Gl X "max" := by rfl) (he : starEach [e, e2] X.env = (false, eval e X.env) :: starEach [e2] X.env := by rfl) (hpl : (backTo pos (starEach [e2] X.env)).any (·.1) = false := by rfl) :
    VEok X Cl (.Call (.Name "max" p) [e, e2] [] pos) (vCall (g2I fun i j => if j > i then j else i) fa) := ve_callB (call_max2 hc) cv_2I hm ha (by decide +kernel) hg (by decide) (by decide) he hpl
theorem ve_min2 (hc : X.calm = true) (hm : X.mg "min" = none) (ha : VAok X Cl [e, e2] fa) (hg : Gl X "min" := by rfl) (he : starEach [e, e2] X.env = (false, eval e X.env) :: starEach [e2] X.env := by rfl) (hpl : (backTo pos (starEach [e2] X.env)).any (·.1) = false := by rfl) :
    VEok X Cl (.Call (.Name "min" p) [e, e2] [] pos) (vCall (g2I fun i j => if j < i then j else i) fa) := ve_callB (call_min2 hc) cv_2I hm ha (by decide +kernel) hg (by decide) (by decide) he hpl
theorem ve_tuple (hm : X.mg "tuple" = none) (ha : VAok X Cl [e] fa) (hg : Gl X "tuple" := by rfl) (he : starEach [e] X.env = (false, eval e X.env) :: starEach [] X.env := by rfl) (hpl : (backTo pos (starEach [] X.env)).any (·.1) = false := by rfl) :
    VEok X Cl (.Call (.Name "tuple" p) [e] [] pos) (vCall (g1 gTuple) fa) := ve_callTy call_tuple_of cv_tuple.all hm ha (by decide +kernel) hg (by decide) (by decide) he hpl
theorem ve_list (hm : X.mg "list" = none) (ha : VAok X Cl [e] fa) (hg : Gl X "list" := by rfl) (he : starEach [e] X.env = (false, eval e X.env) :: starEach [] X.env := by rfl) (hpl : (backTo pos (starEach [] X.env)).any (·.1) = false := by rfl) :
    VEok X Cl (.Call (.Name "list" p) [e] [] pos) (vCall (g1 gList) fa) := ve_callTy call_list_of cv_list.all hm ha (by decide +kernel) hg (by decide) (by decide) he hpl
end
end VL

namespace VL
open PySem PySem.Spec L2 PyProof.Rows

/-! ### isinstance of a built-in class -/
def tyN : D → Option String
  | .non => some "NoneType"
  | .bl _ => some "bool"
  | .int _ => some "int"
  | .str _ => some "str"
  | .lst _ => some "list"
  | .tup _ => some "tuple"
  | .dic _ => some "dict"
  | _ => none
inductive BTy where | int | bool | str | list | tuple | dict
def BTy.name : BTy → String | .int => "int" | .bool => "bool" | .str => "str" | .list => "list" | .tuple => "tuple" | .dict => "dict"
def isiD : BTy → D → Option Bool
  | .int, .int _ => some true
  | .int, .bl _ => some true
  | .bool, .bl _ => some true
  | .str, .str _ => some true
  | .list, .lst _ => some true
  | .tuple, .tup _ => some true
  | .dict, .dic _ => some true
  | _, .ins _ _ => none
  | _, .scr _ => none
  | _, .exc _ _ => none
  | _, _ => some false
theorem isiD_kit {b : BTy} {d : D} {r : Bool} (h : isiD b d = some r) : ∃ t, tyN d = some t ∧ kitB t b.name = some r := by
  cases b <;> cases d <;> first
    | (cases h; done)
    | (cases h; exact ⟨_, rfl, by decide +kernel⟩)
theorem rep_ty {K : PySem.W.Frag} {Cl : ClsT} {H : Hp} {F : ASet} {v : V} {d : D} {t : String} (h : Rep K Cl H F v d) (e : tyN d = some t) : TyX K H v (.type t) := by
  cases h <;> first | (cases e; done) | skip
  · cases e; exact .base .non
  · cases e; exact .base (.bl _)
  · cases e; exact .base (.int _)
  · cases e; exact .base (.str _)
  · cases e
    rename_i hq _
    rcases hq with (hq | ⟨o, hq⟩) | ⟨o, its, n, hk, hc, _⟩
    · exact .base (.tup hq)
    · exact .fTuple hq
    · exact .kTuple hk hc
  · cases e
    rename_i hq _ _
    exact .base (.lst hq)
  · cases e
    rename_i hq _ _
    exact .base (.dK hq)
section
variable {X : Cx} {Cl : ClsT}
def gIsi (b : BTy) : Rv → Option Rv := fun x => match isiD b x.d with
  | some r => some ⟨.bl r, 2, []⟩
  | none => none
theorem ve_isi (b : BTy) {T : Str} {a : Expr} {p p2 pos : Pos} {f : VE} (hm : X.mg "isinstance" = none) (hmT : X.mg T = none) (ha : VEok X Cl a f) (hT : bootBuiltins T = some (.type b.name) := by decide +kernel) (hg : Gl X "isinstance" := by rfl) (hgT : Gl X T := by rfl)
    (hnT : T ≠ "__name__" := by decide) (hdT : (T == ("__debug__" : Str)) = false := by decide)
    (hs : starEach [a, .Name T p2] X.env = (false, eval a X.env) :: starEach [.Name T p2] X.env := by rfl) (hs2 : starEach [.Name T p2] X.env = (false, eval (.Name T p2) X.env) :: starEach [] X.env := by rfl) (hpl : (backTo pos (starEach [.Name T p2] X.env)).any (·.1) = false := by rfl) :
    VEok X Cl (.Call (.Name "isinstance" p) [a, .Name T p2] [] pos) (v1 (gIsi b) f) := by
  obtain ⟨ta, pa, qa⟩ := ha
  refine ⟨_, pe_callB call_isi hg hm (by decide +kernel) (pa_cons pa (pa_cons (pe_bltn (v := .ty b.name) hgT hmT hT rfl hnT hdT) pa_nil hs2) hs) (by decide) (by decide) hs hpl, fun H0 G σ H env Fs ow r Q S e k => ?_⟩
  unfold v1 at e
  split at e <;> (first | (cases e; done) | skip)
  rename_i x ex
  unfold gIsi at e
  split at e <;> (first | (cases e; done) | skip)
  rename_i rb er
  cases e
  refine qa _ _ _ _ _ _ _ _ _ S ex fun v H1 s1 w1 => ?_
  obtain ⟨t, ht, hk⟩ := isiD_kit er
  obtain ⟨F, rr⟩ := w1.rep
  exact ⟨v, .ty b.name, .type t, .type b.name, rb, rfl, .ty _, rep_ty rr ht, kit_ty hk, k _ _ s1 (.pureV (.bl _) rfl)⟩

/-! ### is True, is False -/
def gIsB (b : Bool) : Rv → Option Rv := fun x => match x.d with
  | .bl c => some ⟨.bl (c == b), 2, []⟩
  | .ins _ _ => none
  | .scr _ => none
  | .exc _ _ => none
  | _ => some ⟨.bl false, 2, []⟩
theorem is_bool_gen {M : Model} {A : Around} {E : Value → Shared → Prop} {s : Shared} {Q : Value → Shared → Prop} {v : Value} {b : Bool} (hb : ∀ id, v ≠ .builtin id) (h : Q (.bool (v == .bool b)) s) : wpAny M A (compareOp .Is v (.bool b)) Q E s := by
  cases v <;> first
    | exact wpAny_pure h
    | exact absurd rfl (hb _)
theorem beq_val_bool {v : Value} {b c : Bool} (h : v = .bool b → c = true) (h' : v ≠ .bool b → c = false) : (v == Value.bool b) = c := by
  by_cases e : v = .bool b
  · rw [h e, e]; exact beq_self_eq_true _
  · rw [h' e]; exact beq_eq_false_iff_ne.mpr e
def tIsB (b : Bool) (ta : TE) : TE := fun σ H Q => ta σ H fun x H1 => Q (.bl (decide (x = .bl b))) H1
theorem relV_builtin {x : V} {v : Value} (r : RelV x v) : ∀ id, v ≠ .builtin id := fun id z => by
  subst z
  cases x <;> first
    | (cases (show Value.builtin id = _ from r); done)
    | (obtain ⟨t, e⟩ := r; cases e)
theorem pc_isB {b : Bool} {a : Expr} {pos' : Pos} {j : Nat} {ta : TE} (pa : PE X a ta) : PC X .Is a (.Constant (.bool b) j pos') (tIsB b ta) := by
  refine ⟨fun pins s σ H Q I h => ?_⟩
  refine thn (pa.run pins s σ H _ I h) fun v s1 ⟨x, H1, I1, r1, q1⟩ => Constant_bool (is_bool_gen (relV_builtin r1) ?_)
  have e : (v == Value.bool b) = decide (x = .bl b) := beq_val_bool (fun e => by
    subst e
    have : x = .bl b := RelV.inj r1 rfl
    rw [this]; exact decide_eq_true rfl) (fun ne => decide_eq_false fun z => ne (by rw [z] at r1; exact r1))
  rw [e]
  exact ⟨.bl _, H1, I1, rfl, q1⟩
theorem isB_val {K : PySem.W.Frag} {Hs H : Hp} {Fs : Nat → ASet} {v : V} {x rr : Rv} {b : Bool} (w : ValOk K Cl Hs H Fs v x) (e : gIsB b x = some rr) : rr = ⟨.bl (decide (v = .bl b)), 2, []⟩ := by
  obtain ⟨F, h⟩ := w.rep
  unfold gIsB at e
  cases hd : x.d <;> rw [hd] at e h <;> dsimp only at e <;> (first | (cases e; done) | skip) <;> cases e <;> cases h
  all_goals first
    | (rw [decide_eq_false (fun z => by cases z)]; done)
    | (rw [dec_bl])
theorem ve_isB {b : Bool} {a : Expr} {pos pos' : Pos} {j : Nat} {f : VE} (ha : VEok X Cl a f) : VEok X Cl (.Compare a [.Is] [.Constant (.bool b) j pos'] pos) (v1 (gIsB b) f) := by
  obtain ⟨ta, pa, qa⟩ := ha
  refine ⟨_, pe_cmp (pc_isB pa) rfl, fun H0 G σ H env Fs ow rr Q S e k => ?_⟩
  unfold v1 at e
  split at e <;> (first | (cases e; done) | skip)
  rename_i x ex
  refine qa _ _ _ _ _ _ _ _ _ S ex fun v H1 s1 w1 => ?_
  have q := isB_val w1 e
  subst q
  exact k _ _ s1 (.pureV (.bl _) rfl)
theorem vt_isB {b : Bool} {a : Expr} {pos pos' : Pos} {j : Nat} {f : VE} (ha : VEok X Cl a f) : VTok X Cl (.Compare a [.Is] [.Constant (.bool b) j pos'] pos) (tB_ (v1 (gIsB b) f)) := by
  obtain ⟨ta, pa, qa⟩ := ha
  refine ⟨_, pt_cmp (pc_isB pa) rfl, fun H0 G σ H env Fs ow rb Q S e k => ?_⟩
  unfold tB_ v1 at e
  cases ex : f env with
  | none => rw [ex] at e; cases e
  | some x =>
    rw [ex] at e
    dsimp only at e
    cases eg : gIsB b x with
    | none => rw [eg] at e; cases e
    | some rr =>
      rw [eg] at e
      refine qa _ _ _ _ _ _ _ _ _ S ex fun v H1 s1 w1 => ⟨_, rfl, ?_⟩
      have q := isB_val w1 eg
      subst q
      cases e
      exact k H1 s1

/-! ### x.index(y) of a list, a tuple -/
def firstAt (p : PyData) : Nat → List PyData → Option Nat
  | _, [] => none
  | i, z :: r => if PyData.eqv z p then some i else firstAt p (i + 1) r
theorem firstAt_of {p : PyData} : ∀ {r : List PyData} {i j : Nat}, firstAt p i r = some j → i ≤ j ∧ (∃ z, r[j - i]? = some z ∧ PyData.eqv z p = true) ∧ ∀ m z, m < j - i → r[m]? = some z → PyData.eqv z p = false
  | [], i, j, e => by cases e
  | z :: r, i, j, e => by
    rw [firstAt] at e
    split at e
    · rename_i h
      cases e
      refine ⟨Nat.le_refl _, ⟨z, by simp, h⟩, fun m z' hm => by omega⟩
    · rename_i h
      obtain ⟨h1, ⟨z', h2, h3⟩, h4⟩ := firstAt_of e
      have e1 : j - i = (j - (i + 1)) + 1 := by omega
      refine ⟨by omega, ⟨z', by rw [e1, List.getElem?_cons_succ]; exact h2, h3⟩, fun m z2 hm hz => ?_⟩
      cases m with
      | zero =>
        rw [List.getElem?_cons_zero] at hz
        cases hz
        cases q : PyData.eqv z p with
        | false => rfl
        | true => exact absurd q h
      | succ m =>
        rw [List.getElem?_cons_succ] at hz
        exact h4 m z2 (by omega) hz
/-- slot i is a list; its first item like the argument -/
def vIndex (fo : VE) (g : VA) : VE := fun env => match fo env with
  | some o => match g env with
    | some [y] => match o.d with
      | .lst ds => match toPyL ds, toPy y.d with
        | some qs, some p => if SeqAt.shaped (.list qs) && SeqAt.shaped p then (match firstAt p 0 qs with
          | some j => some ⟨.int (j : Nat), 2, []⟩
          | none => none) else none
        | _, _ => none
      | _ => none
    | _ => none
  | none => none
theorem ve_indexL {o e : Expr} {apos cpos : Pos} {fo : VE} {g : VA} (hu : X.A.units + 65 < cLine) (ho : VEok X Cl o fo) (ha : VAok X Cl [e] g) (hbase : attributeBase o "index" X.env (eval o X.env) = eval o X.env := by rfl)
    (hfew : ((backTo cpos (starEach [e] X.env)).all (fun x => !x.1) && (backToKw cpos (keywordEach [] X.env)).all (fun x => x.1.isSome) && decide ([e].length + ([] : List Keyword).length + (if ([] : List Keyword).isEmpty then 0 else 1) < 30)) = true := by rfl)
    (hline : (apos.endLine == cpos.line) = true := by rfl) (hs : starEach [e] X.env = (false, eval e X.env) :: starEach [] X.env := by rfl) (hplain : (backTo cpos (starEach [] X.env)).any (·.1) = false := by rfl) :
    VEok X Cl (.Call (.Attribute o "index" apos) [e] [] cpos) (vIndex fo g) := by
  obtain ⟨to, po, qo⟩ := ho
  obtain ⟨ta, pa, qa⟩ := ha
  refine ⟨_, pe_bm PySem.F.plainAttrs_list PySem.F.slot_list_index PySem.F.type_list_index (mt_indexD hu) po pa hbase hfew hline hs hplain, fun H0 G σ H env Fs ow r Q S er k => ?_⟩
  unfold vIndex at er
  split at er <;> (first | (cases er; done) | skip)
  rename_i o' eo
  split at er <;> (first | (cases er; done) | skip)
  rename_i y ey
  split at er <;> (first | (cases er; done) | skip)
  rename_i ds ed
  split at er <;> (first | (cases er; done) | skip)
  rename_i qs p eq ep
  split at er <;> (first | (cases er; done) | skip)
  rename_i hsh
  split at er <;> (first | (cases er; done) | skip)
  rename_i j ej
  cases er
  rw [Bool.and_eq_true] at hsh
  refine qo _ _ _ _ _ _ _ _ _ S eo fun v H1 s1 w1 => ?_
  obtain ⟨F1, r1⟩ := w1.rep
  rw [ed] at r1
  obtain ⟨a, xs, rfl, hl, fa, ra⟩ := r1.lst_of
  refine ⟨.inl ⟨rfl, _, SqL.of hl⟩, qa _ _ _ _ _ _ _ _ _ (S.go s1) ey fun vs H2 s2 w2 => ?_⟩
  obtain ⟨u, rfl, w3⟩ := vals_one w2
  obtain ⟨F2, r2⟩ := w3.rep
  have rl : Rep X.K Cl H2 F1 (.ref a) (.lst ds) := (Rep.lst hl fa ra).same s2
  obtain ⟨h1, ⟨z, h2, h3⟩, h4⟩ := firstAt_of ej
  rw [Nat.sub_zero] at h2 h4
  exact ⟨a, u, p, qs, j, z, rfl, rfl, rl.dp (by rw [toPy, eq]), r2.dp ep, hsh.1, hsh.2, h2, h3, h4, k _ _ (s1.trans s2) (.pureV (.int _) rfl)⟩

/-! ### x += e -/
def vAug (i : Nat) (f : VE) : VS := fun env => match env[i]? with
  | some (some (_, .int a)) => match f env with
    | some r => match r.d with
      | .int b => if i < env.length then .nx (put i ⟨.int (a + b), 2, []⟩ env) else .no
      | _ => .no
    | none => .no
  | _ => .no
theorem vs_augAdd (i : Nat) {W : WX} {x : Str} {e : Expr} {tpos pos : Pos} {f : VE} (hN : X.N.Nodup) (h : VEok X Cl e f) (hi : X.N[i]? = some x := by rfl) (hx : Loc X.env.scope x := by first | exact Or.inl rfl | exact Or.inr rfl) (hf : X.fn x = true ∨ X.env.scope.names.lookup x = some .local := by first | exact .inl rfl | exact .inr rfl)
    (hd : (x == ("__debug__" : Str)) = false := by decide) : VSok X W Cl (.AugAssign (.Name x tpos) .Add e pos) (vAug i f) := by
  obtain ⟨t, p, q⟩ := h
  refine ⟨_, ps_aug (i := i) hN hi hx p ip_add, fun H0 G D σ H env Fs ow S k => ?_⟩
  unfold vAug at k
  split at k <;> (first | (exact k.elim; done) | skip)
  rename_i fl a ea
  split at k <;> (first | (exact k.elim; done) | skip)
  rename_i r er
  split at k <;> (first | (exact k.elim; done) | skip)
  rename_i b eb
  split at k <;> (first | (exact k.elim; done) | skip)
  rename_i hl
  obtain ⟨v, h1, h2, h3⟩ := S.val i fl _ ea
  have ev := h2.int_of
  subst ev
  refine ⟨_, h1, q _ _ _ _ _ _ _ _ _ S er fun u H1 s1 w1 => ⟨a, b, rfl, val_int w1 eb, ?_⟩⟩
  obtain ⟨Fs', ow', k1, k2⟩ := S.put hl s1 (r := ⟨.int (a + b), 2, []⟩) (.pureV (.int _) rfl)
  exact k _ _ _ _ k1 k2
end
end VL

namespace VL
open PySem PySem.Spec L2 PyProof.Rows

/-! ### own errors as values: made -/
section
variable {fs ex : List Addr} {H : Hp} {h h' : Heap} {a : Addr} {o : HO}
theorem un_laidN (k : ∀ b u, h.get? b = some u → h'.get? b = some u) (hp : h.get? a = none) (hn : H a = none) : Un fs ex H (upd H a o) h h' where
  keep := fun b u q _ _ _ => k b u q
  slot := fun b u q _ _ _ => ⟨u.slots, k b u q⟩
  free := fun b u q n _ => by rw [upd_ne (fun z => by rw [z, hp] at q; cases q)]; exact n
  there := fun b u q _ => ⟨u, k b u q⟩
  tups := fun b xs q => by rw [upd_ne (ne_of_none q hn)]; exact q
  frzs := fun b u xs q => by rw [upd_ne (ne_of_none q hn)]; exact q
  tbls := fun b ps q => ⟨#[], by rw [upd_ne (ne_of_none q hn), q]; simp⟩
theorem inv_laidN {X : Cx} {pins : List (Addr × Obj)} {σ : L2.St} {s : Shared} {t' : Nat} (I : Inv X pins σ H s) (k : ∀ b u, s.heap.get? b = some u → h'.get? b = some u) (hp : s.heap.get? a = none) (hn : H a = none) (new : ObjOk X.prog X.w (upd H a o) h' a o) :
    Inv X pins σ (upd H a o) { s with heap := h', toks := t' } := I.un (un_laidN k hp hn) fun b u e => by
  by_cases hb : b = a
  · subst hb
    rw [upd_same] at e
    cases e
    exact new
  · rw [upd_ne hb] at e
    exact (I.hok b u e).stay (fun c v _ q => k c v q) (fun c q => by rw [upd_ne (ne_of_none q hn)]; exact q) fun c xs q => by rw [upd_ne (ne_of_none q hn)]; exact q
end
section
variable {X : Cx} {pos p : Pos} {e : Expr} {es : List Expr} {ta : TA}
/-- C(e, ..), C's own __init__ keeping sp -/
def tMkV (C : Addr) (sp : Sp) (ta : TA) : TE := fun σ H Q => ta σ H fun vs H1 => vs.length ≤ 1000 ∧ ∀ a, H1 a = none → sp (.ref a :: vs) (upd H1 a (exo a C none)) (fun _ H2 => Q (.ref a) H2) (fun _ _ _ => False)
theorem pe_oexV {CX : CXT} {x : Str} {C fI : Addr} {k : Nat} {fd : FuncData} {ps : List Str} {sp : Sp} (T : OexC X.K C) (iC : PySem.W.findIn X.K (.ref C) "__init__" = some (some (.ref fI))) (tI : PySem.W.typeIn X.K (.ref fI) = some (.type "function"))
    (F1 : FnOk X.prog X.w X.K X.mg X.base CX k fI fd ps sp) (hr : Room (k + 1) X.A) (hb : Binds X.K fd ps []) (hx : Passes CX X (fun _ _ _ => False)) (hg : Gl X x) (hm : X.mg x = some (.ref C)) (ha : PA X (e :: es) ta) (hnn : ∀ vs H Q E, sp vs H Q E → sp vs H (fun v H' => v = .non ∧ Q v H') E)
    (hdb : (x == ("__debug__" : Str)) = false := by decide) (he : starEach (e :: es) X.env = (false, eval e X.env) :: starEach es X.env := by rfl) (hpl : (backTo pos (starEach es X.env)).any (·.1) = false := by rfl) :
    PE X (.Call (.Name x p) (e :: es) [] pos) (tMkV C sp ta) := by
  refine ⟨fun pins s σ H Q I h => ?_⟩
  obtain ⟨nm, q, N, bs, bm, sn, sub, ab, col, dd, k0, k1, k2, k3, k5, hC, hbm⟩ := T.cls
  refine wpAny_Call_Name_kw (ld_glob I hg hm ?_ hdb)
  refine PySem.W.callWith_K (h₀ := X.base) I.ok.mod.kin T.kC (thn (ha.run pos pins s σ H _ I h) fun us s1 ⟨vs, H1, I1, r1, hz, q1⟩ => ⟨I1.kIn, ?_⟩) he hpl
  show wpAny _ _ (call (.ref C) us) _ _ _
  obtain ⟨hp, g, dr, tk, os⟩ := s1
  have hsz : hp.objs.size ≤ hp.objs.size + 1 := Nat.le_succ _
  have hn : H1 (hp.objs.size + 1) = none := I1.hok.fresh hsz
  have hq := hnn _ _ _ _ (q1 (hp.objs.size + 1) hn)
  have kk : ∀ b o, hp.get? b = some o → ((hp.push (PySem.W.kdv_tup us)).push (PySem.HandSPX.excO C hp.objs.size)).get? b = some o := fun b o e => Heap.get?_push_of_some _ (Heap.get?_push_of_some _ e)
  have hget : ((hp.push (PySem.W.kdv_tup us)).push (PySem.HandSPX.excO C hp.objs.size)).get? (hp.objs.size + 1) = some (PySem.HandSPX.excO C hp.objs.size) := by heap_get
  have I2 : Inv X pins σ (upd H1 (hp.objs.size + 1) (exo (hp.objs.size + 1) C none)) ⟨(hp.push (PySem.W.kdv_tup us)).push (PySem.HandSPX.excO C hp.objs.size), g, dr, tk, os⟩ :=
    I1.laid (t' := tk) (a := hp.objs.size + 1) (o := exo (hp.objs.size + 1) C none) (h' := (hp.push (PySem.W.kdv_tup us)).push (PySem.HandSPX.excO C hp.objs.size)) kk hsz (exo_ok hget)
  have r2 : Vals (V.ref (hp.objs.size + 1) :: vs) (Value.ref (hp.objs.size + 1) :: us) := .cons rfl r1
  have hl : (Value.ref (hp.objs.size + 1) :: us ++ []).length = ps.length := by
    rw [List.append_nil]
    have e := r2.length
    rw [F1.len _ _ _ _ hq] at e
    exact e.symm
  have hus : us.length ≤ sizeLine := by
    rw [← Paired.length r1, sizeLine_eq]
    omega
  have hbb := hb _ (Value.ref (hp.objs.size + 1) :: us) I2.kIn hl
  rw [List.append_nil] at hbb
  refine wpAny_call (PySem.HandSPX.call_own F.excBase_ValueError (fun Y => PySem.HandSPX.refsVE_contains Y bm hbm) (I1.kIn _ _ hC) (PySem.W.looks_findIn I1.kIn iC) (fun self => PySem.W.bind_fn I1.kIn self tI) hus
    (codeAny_mono (F1.run _ X.stack _ _ ⟨Value.ref (hp.objs.size + 1) :: us, []⟩ (Value.ref (hp.objs.size + 1) :: us) _ _ (fun _ _ _ => False) (hr.make C us []) (I2.env0.make C us []) hbb r2 hq) fun r s' hq' => ?_))
  cases r with
  | error er => exact hx pins σ _ _ er s' I2 hq'
  | ok fl =>
    cases fl with
    | ret u =>
      obtain ⟨v, H2, os2, bare2, un2, hok2, rv, ev, q2⟩ := hq'
      subst ev
      obtain ⟨h2, g2, d2, t2, os'⟩ := s'
      exact ⟨rv, .ref (hp.objs.size + 1), H2, I2.call' (ch := []) os2 un2 hok2 bare2 (fun b z => absurd z (by simp)), rfl, q2⟩
    | next => exact False.elim hq'
    | brk => exact False.elim hq'
    | cont => exact False.elim hq'
/-- C(), C without an __init__ of its own -/
theorem pe_exc0V {C : Addr} {bmB : List Value} {B newId initId : String} {x : Str} (F : ExcBaseFacts B newId initId bmB) (q : PySem.W.excIn X.K C bmB newId = true) (gC : X.mg x = some (.ref C)) (kC : PySem.W.keepIn X.K (.ref C) = true) (hg : Gl X x)
    (hdb : (x == ("__debug__" : Str)) = false := by decide) :
    PE X (.Call (.Name x p) [] [] pos) (fun σ H Q => ∀ a, H a = none → Q (.ref a) (upd H a (exo a C none))) := by
  refine ⟨fun pins s σ H Q I h => ?_⟩
  refine wpAny_Call_Name_kw (ld_glob I hg gC ?_ hdb)
  refine PySem.W.callWith_K0 I.kIn kC ?_
  show wpAny _ _ (call (.ref C) []) _ _ _
  obtain ⟨hp, g, dr, tk, os⟩ := s
  obtain ⟨bm, N, nm, qn, bs, hdct, sn, sub, ab, col, dd, k0, k1, k2, k3, k5, mN, hC, hN, hni, T⟩ := exc_obj I.kIn q
  refine wpAny_call_exc_subT F T hC hN hni (fun h' a hm => ?_) (Nat.zero_le _)
  have hn : H a = none := I.hok.gone hm.new
  obtain ⟨t, ht, _, _⟩ := hm.there
  exact ⟨.ref a, upd H a (exo a C none), inv_laidN I hm.keeps hm.new hn (exo_ok ht), rfl, h a hn⟩

/-! ### their fields -/
def tXfV (f : Str) (te : TE) (K : PySem.W.Frag) : TE := fun σ H Q => te σ H fun x H1 => ∃ (a C dx : Addr) (fs : List (Str × V)) (v : V), x = .ref a ∧ XfC K C ∧ PySem.W.findIn K (.ref C) f = some none ∧ H1 a = some (exo a C (some dx)) ∧ H1 dx = some (exd dx fs) ∧ fs.lookup f = some v ∧ Q v H1
theorem pe_xfV {te : TE} {n : Str} (he : PE X e te) (hb : attributeBase e n X.env (eval e X.env) = eval e X.env := by rfl) : PE X (.Attribute e n pos) (tXfV n te X.K) := by
  refine ⟨fun pins s σ H Q I h => ?_⟩
  refine attr_of hb (thn (he.run pins s σ H _ I h) fun u s1 hh => ?_)
  obtain ⟨x, H1, I1, rx, a, C, dx, fs, v, ex, T, hno, ea, ed, l, q⟩ := hh
  subst ex
  obtain rfl : u = Value.ref a := rx
  obtain ⟨t1, ho⟩ := exo_at I1.hok ea
  obtain ⟨mA, hns, hr⟩ := exd_at I1.hok ed
  obtain ⟨od, hod, hl⟩ := lookIn_ns hns
  obtain ⟨u, hu, ru⟩ := RelO.some_of (v := v) (o := mA n) (by rw [← l]; exact hr n)
  have J : PySem.W.InstAt s1.heap a _ C (some od) := ⟨ho, rfl, rfl, hod⟩
  exact HandSPX.exc_get I1.kIn J T.ga T.gg T.exC (PySem.W.findObj_own T.hdC hno rfl (by rw [hl, hu])) (handed_of ru) ⟨v, H1, I1.tok _, ru, q⟩

/-! ### isinstance of such -/
def rIsV (K : PySem.W.Frag) : List V → Hp → VK → Prop := fun xs H Q => ∃ (a D : Addr) (d : Option Addr) (c : V) (cv : Value) (b : Bool), xs = [.ref a, c] ∧ ExcC K D ∧ H a = some (exo a D d) ∧ (∀ dx, d = some dx → ∃ fs, H dx = some (exd dx fs)) ∧ (∀ u, RelV c u → u = cv) ∧ PySem.W.kitOne K (.ref D) cv = some b ∧ Q (.bl b) H
theorem clsE {K : PySem.W.Frag} {D : Addr} (h : PySem.W.hasDictIn K D = true) : (PySem.W.clsIn K D).isSome = true := by
  obtain ⟨cd, hc, _⟩ := PySem.W.any_some h
  rw [hc]; rfl
theorem call_isV : CallR X (.builtin "isinstance") (rIsV X.K) := by
  intro pins s σ H xs us Q I r h
  obtain ⟨a, D, d, c, cv, b, rfl, C, ea, ed, hcv, e, q⟩ := h
  cases r with
  | cons rx rr =>
    cases rr with
    | cons rt rr =>
      cases rr
      cases rx
      have ec := hcv _ rt
      subst ec
      obtain ⟨t1, ho⟩ := exo_at I.hok ea
      cases d with
      | none =>
        have J : PySem.W.InstAt s.heap a _ D none := ⟨ho, rfl, rfl, trivial⟩
        exact PySem.W.kia_one (PySem.W.kitx_exc (clsE C.hd) C.hg C.hk C.hs C.ha C.hn C.ht C.hm) I.kIn J e (fun z => nomatch z) fun tk => ⟨.bl b, H, I.kept (t' := tk) fun _ _ z => z, rfl, q⟩
      | some dx =>
        obtain ⟨fs, e2⟩ := ed dx rfl
        obtain ⟨mA, hns, hr⟩ := exd_at I.hok e2
        obtain ⟨od, hod, hl⟩ := lookIn_ns hns
        have J : PySem.W.InstAt s.heap a _ D (some od) := ⟨ho, rfl, rfl, hod⟩
        exact PySem.W.kia_one (PySem.W.kitx_exc (clsE C.hd) C.hg C.hk C.hs C.ha C.hn C.ht C.hm) I.kIn J e (fun z => nomatch z) fun tk => ⟨.bl b, H, I.kept (t' := tk) fun _ _ z => z, rfl, q⟩
end
end VL

namespace VL
open PySem PySem.Spec L2 PyProof.Rows

/-! ### what is asked of an error class, as tests -/
def excB (K : PySem.W.Frag) (C : Addr) : Bool :=
  decide (PySem.W.findIn K (.ref C) "__getattribute__" = some (some (.builtin "BaseException.__getattribute__"))) && (decide (PySem.W.findIn K (.ref C) "__getattr__" = some none) &&
  (decide (PySem.W.subIn K (.ref C) (.type "BaseException") = some true) && (PySem.W.hasDictIn K C && (decide (PySem.W.findIn K (.ref C) "__class__" = some (some (.builtin "object.__class__"))) &&
  (decide (PySem.W.specialIn K (.builtin "object.__class__") "__get__" = some (some (.builtin "getset_descriptor.__get__"))) && (decide (PySem.W.takesIn K (.builtin "object.__class__") = some true) && decide (PySem.W.mroIn K C (.type "object") = some true)))))))
theorem excB_ok {K : PySem.W.Frag} {C : Addr} (h : excB K C = true) : ExcC K C := by
  obtain ⟨h1, h⟩ := Bool.and_eq_true_iff.mp h
  obtain ⟨h2, h⟩ := Bool.and_eq_true_iff.mp h
  obtain ⟨h3, h⟩ := Bool.and_eq_true_iff.mp h
  obtain ⟨h4, h⟩ := Bool.and_eq_true_iff.mp h
  obtain ⟨h5, h⟩ := Bool.and_eq_true_iff.mp h
  obtain ⟨h6, h⟩ := Bool.and_eq_true_iff.mp h
  obtain ⟨h7, h8⟩ := Bool.and_eq_true_iff.mp h
  exact ⟨of_decide_eq_true h1, of_decide_eq_true h2, of_decide_eq_true h3, h4, of_decide_eq_true h5, of_decide_eq_true h6, of_decide_eq_true h7, of_decide_eq_true h8⟩
theorem excC_xf {K : PySem.W.Frag} {C : Addr} (h : ExcC K C) : XfC K C := ⟨h.hg, h.hk, h.hs, h.hd⟩
def oexB0 (K : PySem.W.Frag) (C : Addr) : Bool := match K.lookup C with
  | some ⟨.type "type", _, .cls cd, sl⟩ => (match cd.mro, sl.toList with
    | .ref C' :: bm, [_, _, _, _, some (.builtin n), _] => C' == C && (n == "ValueError.__new__" && (cd.hasDict && (!cd.hasDel && PySem.HandSPX.refsVE bm)))
    | _, _ => false)
  | _ => false
theorem oexB0_ok {K : PySem.W.Frag} {C : Addr} (h : oexB0 K C = true) : ∃ nm q N bs bm sn sub ab col dd k0 k1 k2 k3 k5, K.lookup C = some (excClassObj nm q C N bs bm true sn sub ab col dd k0 k1 k2 k3 k5 "ValueError.__new__") ∧ PySem.HandSPX.refsVE bm = true := by
  unfold oexB0 at h
  split at h
  · rename_i dd cd sl e
    obtain ⟨nm, bs, mro, ns, qn, hd, sn, sb, ab, col, del⟩ := cd
    dsimp only at h
    split at h
    · rename_i l2 C' bm k0 k1 k2 k3 n k5 hs
      obtain ⟨h1, h⟩ := Bool.and_eq_true_iff.mp h
      obtain ⟨h2, h⟩ := Bool.and_eq_true_iff.mp h
      obtain ⟨h3, h⟩ := Bool.and_eq_true_iff.mp h
      obtain ⟨h4, h5⟩ := Bool.and_eq_true_iff.mp h
      have e1 := eq_of_beq h1
      have e2 := eq_of_beq h2
      subst e1 e2 h3
      have e4 : del = false := by cases del <;> first | rfl | cases h4
      subst e4
      have es : sl = #[k0, k1, k2, k3, some (.builtin "ValueError.__new__"), k5] := by
        cases sl; exact congrArg Array.mk hs
      subst es
      exact ⟨_, _, _, _, _, _, _, _, _, _, _, _, _, _, _, e, h5⟩
    · cases h
  · cases h
def oexB (K : PySem.W.Frag) (C : Addr) : Bool := oexB0 K C && (decide (PySem.W.findIn K (.ref C) "__setattr__" = some (some (.builtin "object.__setattr__"))) && (decide (PySem.W.typeIn K (.ref C) = some (.type "type")) && (PySem.W.keepIn K (.ref C) && excB K C)))
theorem oexB_ok {K : PySem.W.Frag} {C : Addr} (h : oexB K C = true) : OexC K C ∧ ExcC K C := by
  obtain ⟨h1, h⟩ := Bool.and_eq_true_iff.mp h
  obtain ⟨h2, h⟩ := Bool.and_eq_true_iff.mp h
  obtain ⟨h3, h⟩ := Bool.and_eq_true_iff.mp h
  obtain ⟨h4, h5⟩ := Bool.and_eq_true_iff.mp h
  have E := excB_ok h5
  exact ⟨⟨oexB0_ok h1, of_decide_eq_true h2, E.hs, of_decide_eq_true h3, h4⟩, E⟩
/-- fs: no attribute of the class itself -/
def noAttB (K : PySem.W.Frag) (C : Addr) (fs : List Str) : Bool := fs.all fun f => decide (PySem.W.findIn K (.ref C) f = some none)
theorem noAttB_ok {K : PySem.W.Frag} {C : Addr} {fs : List Str} (h : noAttB K C fs = true) : ∀ f ∈ fs, PySem.W.findIn K (.ref C) f = some none := fun f hf => of_decide_eq_true (List.all_eq_true.mp h f hf)
abbrev clOf (Cs : List Addr) : ClsT := fun c => Cs[c]?
def kitRow (K : PySem.W.Frag) (Cs : List Addr) (cv : Value) (row : List (Nat × Bool)) : Bool := row.all fun p => match Cs[p.1]? with
  | some C => decide (PySem.W.kitOne K (.ref C) cv = some p.2) && excB K C
  | none => false
def KitRow (K : PySem.W.Frag) (Cl : ClsT) (cv : Value) (row : List (Nat × Bool)) : Prop := ∀ c b, row.lookup c = some b → ∃ C, Cl c = some C ∧ ExcC K C ∧ PySem.W.kitOne K (.ref C) cv = some b
theorem mem_of_lookup {β : Type _} {c : Nat} {b : β} : ∀ {row : List (Nat × β)}, row.lookup c = some b → (c, b) ∈ row
  | [], h => by cases h
  | (k, v) :: r, h => by
    rw [List.lookup] at h
    split at h
    · rename_i e
      have := eq_of_beq e
      subst this
      cases h
      exact List.mem_cons_self
    · exact List.mem_cons_of_mem _ (mem_of_lookup h)
theorem kitRow_ok {K : PySem.W.Frag} {Cs : List Addr} {cv : Value} {row : List (Nat × Bool)} (h : kitRow K Cs cv row = true) : KitRow K (clOf Cs) cv row := fun c b e => by
  have := List.all_eq_true.mp h (c, b) (mem_of_lookup e)
  dsimp only at this
  split at this
  · rename_i C eC
    obtain ⟨h1, h2⟩ := Bool.and_eq_true_iff.mp this
    exact ⟨C, eC, excB_ok h2, of_decide_eq_true h1⟩
  · cases this

/-! ### __init__ of an error: self.f = f, .. -/
def spI (K : PySem.W.Frag) (C : Addr) (fs : List Str) : Sp := fun vs H Q _ => ∃ (a : Addr) (ys : List V), vs = .ref a :: ys ∧ ys.length = fs.length ∧ H a = some (exo a C none) ∧
  ∀ dx, H dx = none → dx ≠ a → Q .non (upd (upd H dx (exd dx (fs.zip ys).reverse)) a (exo a C (some dx)))
section
variable {P : Program} {w : World} {K : PySem.W.Frag} {mg : Str → Option Value} {base : Heap} {Cl : ClsT} {C f : Addr} {fd : FuncData} {st : Stmt} {x qual : Str}
theorem fn_init1 {f1 : Str} {st1 : Stmt} (F : Fun K x qual st f fd) (S : FnScope ["self", f1] ["self", f1] (defScope st)) (hd : defBody st = [st1]) (T : OexC K C) (h1 : PySem.W.findIn K (.ref C) f1 = some none)
    (b1 : ∀ (cdv : Value) (A : Around) (outer : List Env) (s : Shared) (H : Hp) (E : XK), PS (bodyCx P w K mg base ["self", f1] qual st f cdv A outer s H E) st1 (tOst K f1 (tVar 0) (tVar 1))) :
    FnOk P w K mg base (L2.CX P w) 1 f fd ["self", f1] (spI K C [f1]) := by
  refine F.okX S (fun vs H Q E h => ?_) (fun cdv A outer s H vs Q E hr h => ?_)
  · obtain ⟨a, ys, rfl, hl, _⟩ := h
    rw [List.length_cons, hl]; rfl
  · obtain ⟨a, ys, rfl, hl, ea, h⟩ := h
    match ys, hl with
    | [y], _ =>
      rw [hd]
      refine ⟨_, pss_one (b1 cdv A outer s H E), ?_⟩
      refine ⟨y, rfl, .ref a, rfl, a, C, rfl, T, h1, .inl ⟨ea, fun dx n ne => ?_⟩⟩
      exact h dx n ne
theorem fn_init2 {f1 f2 : Str} {st1 st2 : Stmt} (F : Fun K x qual st f fd) (S : FnScope ["self", f1, f2] ["self", f1, f2] (defScope st)) (hd : defBody st = [st1, st2]) (T : OexC K C) (h1 : PySem.W.findIn K (.ref C) f1 = some none) (h2 : PySem.W.findIn K (.ref C) f2 = some none)
    (b1 : ∀ (cdv : Value) (A : Around) (outer : List Env) (s : Shared) (H : Hp) (E : XK), PS (bodyCx P w K mg base ["self", f1, f2] qual st f cdv A outer s H E) st1 (tOst K f1 (tVar 0) (tVar 1)))
    (b2 : ∀ (cdv : Value) (A : Around) (outer : List Env) (s : Shared) (H : Hp) (E : XK), PS (bodyCx P w K mg base ["self", f1, f2] qual st f cdv A outer s H E) st2 (tOst K f2 (tVar 0) (tVar 2))) :
    FnOk P w K mg base (L2.CX P w) 1 f fd ["self", f1, f2] (spI K C [f1, f2]) := by
  refine F.okX S (fun vs H Q E h => ?_) (fun cdv A outer s H vs Q E hr h => ?_)
  · obtain ⟨a, ys, rfl, hl, _⟩ := h
    rw [List.length_cons, hl]; rfl
  · obtain ⟨a, ys, rfl, hl, ea, h⟩ := h
    match ys, hl with
    | [y, z], _ =>
      rw [hd]
      refine ⟨_, pss_cons (b1 cdv A outer s H E) (pss_one (b2 cdv A outer s H E)), ?_⟩
      refine ⟨y, rfl, .ref a, rfl, a, C, rfl, T, h1, .inl ⟨ea, fun dx n ne => ?_⟩⟩
      refine ⟨z, rfl, .ref a, rfl, a, C, rfl, T, h2, .inr ⟨dx, _, upd_same, by rw [upd_ne ne]; exact upd_same, Nat.le_trans (Nat.le_refl 1) (by decide), ?_⟩⟩
      have e : upd (upd (upd H dx (exd dx [(f1, y)])) a (exo a C (some dx))) dx (exd dx [(f2, z), (f1, y)]) = upd (upd H dx (exd dx [(f2, z), (f1, y)])) a (exo a C (some dx)) := by
        funext b
        by_cases hb : b = dx
        · subst hb; rw [upd_same, upd_ne ne, upd_same]
        · rw [upd_ne hb]
          by_cases hba : b = a
          · subst hba; rw [upd_same, upd_same]
          · rw [upd_ne hba, upd_ne hba, upd_ne hb, upd_ne hb]
      rw [e]
      exact h dx n ne
end
/-- an error class with an __init__ of its own -/
def ErrI (P : Program) (w : World) (K : PySem.W.Frag) (mg : Str → Option Value) (base : Heap) (Cl : ClsT) (c : Nat) (x : Str) (fs : List Str) : Prop :=
  ∃ C fI fd, Cl c = some C ∧ mg x = some (.ref C) ∧ OexC K C ∧ ExcC K C ∧ PySem.W.findIn K (.ref C) "__init__" = some (some (.ref fI)) ∧ PySem.W.typeIn K (.ref fI) = some (.type "function") ∧ Binds K fd ("self" :: fs) [] ∧
    (∀ f ∈ fs, PySem.W.findIn K (.ref C) f = some none) ∧ FnOk P w K mg base (L2.CX P w) 1 fI fd ("self" :: fs) (spI K C fs)
/-- an error class without -/
def Err0 (K : PySem.W.Frag) (mg : Str → Option Value) (Cl : ClsT) (c : Nat) (x : Str) : Prop :=
  ∃ C, Cl c = some C ∧ mg x = some (.ref C) ∧ PySem.W.keepIn K (.ref C) = true ∧ PySem.W.excIn K C [.type "ValueError", .type "Exception", .type "BaseException", .type "object"] "ValueError.__new__" = true

/-! ### their rules -/
section
variable {X : Cx} {Cl : ClsT} {p pos : Pos} {e : Expr} {es : List Expr}
def vErr (c : Nat) (fs : List Str) (fa : VA) : VE := fun env => match fa env with
  | some rs => if rs.length = fs.length ∧ rs.length ≤ 900 ∧ noMutL (dsOf rs) = true then some ⟨.exc c (fs.zip (dsOf rs)).reverse, 0, []⟩ else none
  | none => none
theorem repF_zip {K : PySem.W.Frag} {H : Hp} {F : ASet} : ∀ {fs : List Str} {vs : List V} {ds : List D}, Reps K Cl H F vs ds → RepF K Cl H F (fs.zip vs) (fs.zip ds)
  | [], _, _, _ => .nil
  | _ :: _, _, _, .nil => .nil
  | f :: fs, _, _, .cons a b => .cons a (repF_zip b)
theorem repF_append {K : PySem.W.Frag} {H : Hp} {F : ASet} : ∀ {xs ys : List (Str × V)} {ds es : List (Str × D)}, RepF K Cl H F xs ds → RepF K Cl H F ys es → RepF K Cl H F (xs ++ ys) (ds ++ es)
  | _, _, _, _, .nil, s => s
  | _, _, _, _, .cons a b, s => .cons a (repF_append b s)
theorem repF_reverse {K : PySem.W.Frag} {H : Hp} {F : ASet} : ∀ {xs : List (Str × V)} {ds : List (Str × D)}, RepF K Cl H F xs ds → RepF K Cl H F xs.reverse ds.reverse
  | _, _, .nil => .nil
  | _, _, .cons a b => by rw [List.reverse_cons, List.reverse_cons]; exact repF_append (repF_reverse b) (.cons a .nil)
theorem reps_pure {K : PySem.W.Frag} {H : Hp} {F F' : ASet} {vs : List V} {ds : List D} (r : Reps K Cl H F vs ds) (n : noMutL ds = true) : Reps K Cl H F' vs ds := r.pure n
theorem ve_err {c : Nat} {x : Str} {fs : List Str} {fa : VA} (E : ErrI X.prog X.w X.K X.mg X.base Cl c x fs) (hr : Room 2 X.A) (ha : VAok X Cl (e :: es) fa) (hg : Gl X x := by rfl)
    (hdb : (x == ("__debug__" : Str)) = false := by decide) (he : starEach (e :: es) X.env = (false, eval e X.env) :: starEach es X.env := by rfl) (hpl : (backTo pos (starEach es X.env)).any (·.1) = false := by rfl) :
    VEok X Cl (.Call (.Name x p) (e :: es) [] pos) (vErr c fs fa) := by
  obtain ⟨C, fI, fd, hC, hm, T, EC, iC, tI, hb, hno, F⟩ := E
  obtain ⟨ta, pa, qa⟩ := ha
  refine ⟨_, pe_oexV T iC tI F hr hb passL hg hm pa (fun vs H Q E h => ?_) hdb he hpl, fun H0 G σ H env Fs ow r Q S er kk => ?_⟩
  · obtain ⟨a, ys, h1, h2, h3, h4⟩ := h
    exact ⟨a, ys, h1, h2, h3, fun dx n ne => ⟨rfl, h4 dx n ne⟩⟩
  unfold vErr at er
  split at er <;> (first | (cases er; done) | skip)
  rename_i rs ers
  split at er <;> (first | (cases er; done) | skip)
  rename_i hc
  obtain ⟨c1, c2, c3⟩ := hc
  cases er
  refine qa _ _ _ _ _ _ _ _ _ S ers fun vs H1 s1 w1 => ?_
  obtain ⟨F1, r1, t1, f1⟩ := w1.reps
  have hl : vs.length = rs.length := w1.length
  refine ⟨by omega, fun a ha => ⟨a, vs, rfl, by omega, upd_same, fun dx hd ne => ?_⟩⟩
  have hd1 : H1 dx = none := by rw [upd_ne ne] at hd; exact hd
  have eq : ∀ o1 o2 o3, upd (upd (upd H1 a o1) dx o2) a o3 = upd (upd H1 dx o2) a o3 := fun o1 o2 o3 => by
    funext b
    by_cases hb : b = a
    · subst hb; rw [upd_same, upd_same]
    · rw [upd_ne hb, upd_ne hb]
      by_cases hbd : b = dx
      · subst hbd; rw [upd_same, upd_same]
      · rw [upd_ne hbd, upd_ne hbd, upd_ne hb]
  rw [eq]
  have s2 : Same H1 (upd (upd H1 dx (exd dx (fs.zip vs).reverse)) a (exo a C (some dx))) := fun b o q => by
    rw [upd_ne (ne_of_none q ha), upd_ne (ne_of_none q hd1)]; exact q
  refine kk _ _ (s1.trans s2) ⟨fun b => b = a ∨ b = dx, [], ?_, fun b hb => ?_, fun b hb => .inl (s1.free (hb.elim (fun z => z ▸ ha) fun z => z ▸ hd1)), .zero, fun _ z => by cases z⟩
  · refine .exc (dx := dx) upd_same (by rw [upd_ne ne]; exact upd_same) (.inl rfl) (.inr rfl) hC ?_
    exact repF_reverse (repF_zip ((reps_pure r1 c3).same s2))
  · rcases hb with rfl | rfl
    · rw [upd_same]; exact fun z => by cases z
    · rw [upd_ne ne, upd_same]; exact fun z => by cases z
def vErr0 (c : Nat) : VE := fun _ => some ⟨.exc c [], 0, []⟩
theorem ve_err0 {c : Nat} {x : Str} (E : Err0 X.K X.mg Cl c x) (hg : Gl X x := by rfl) (hdb : (x == ("__debug__" : Str)) = false := by decide) : VEok X Cl (.Call (.Name x p) [] [] pos) (vErr0 c) := by
  obtain ⟨C, hC, hm, kC, q⟩ := E
  refine ⟨_, pe_exc0V F.excBase_ValueError q hm kC hg hdb, fun H0 G σ H env Fs ow r Q S er kk => ?_⟩
  cases er
  intro a ha
  have s2 : Same H (upd H a (exo a C none)) := fun b o q => by rw [upd_ne (ne_of_none q ha)]; exact q
  refine kk _ _ s2 ⟨fun b => b = a, [], .exc0 upd_same rfl hC, fun b hb => ?_, fun b hb => .inl (hb ▸ ha), .zero, fun _ z => by cases z⟩
  subst hb; rw [upd_same]; exact fun z => by cases z
/-- e.n of an error whose class is one of cs -/
def vXf (cs : List Nat) (n : Str) (f : VE) : VE := fun env => match f env with
  | some x => match x.d with
    | .exc c fs => if cs.contains c = true then (match fs.lookup n with
        | some d => if noMut d = true then some ⟨d, 2, []⟩ else none
        | none => none) else none
    | _ => none
  | none => none
theorem repF_lookup {K : PySem.W.Frag} {H : Hp} {F : ASet} {n : Str} {d : D} : ∀ {xs : List (Str × V)} {ds : List (Str × D)}, RepF K Cl H F xs ds → ds.lookup n = some d → ∃ v, xs.lookup n = some v ∧ Rep K Cl H F v d
  | _, _, .nil, e => by cases e
  | _, _, @RepF.cons _ _ _ _ k v d' vs ds' a b, e => by
    rw [List.lookup] at e ⊢
    split at e
    · cases e; exact ⟨_, rfl, a⟩
    · exact repF_lookup b e
theorem ve_xf {n : Str} {cs : List Nat} {f : VE} (hcs : ∀ c ∈ cs, ∃ C, Cl c = some C ∧ ExcC X.K C ∧ PySem.W.findIn X.K (.ref C) n = some none) (he : VEok X Cl e f) (hb : attributeBase e n X.env (eval e X.env) = eval e X.env := by rfl) : VEok X Cl (.Attribute e n pos) (vXf cs n f) := by
  obtain ⟨te, pe, qe⟩ := he
  refine ⟨_, pe_xfV pe hb, fun H0 G σ H env Fs ow rr Q S e k => ?_⟩
  unfold vXf at e
  split at e <;> (first | (cases e; done) | skip)
  rename_i x ex
  refine qe _ _ _ _ _ _ _ _ _ S ex fun v H1 s1 w1 => ?_
  obtain ⟨F, r1⟩ := w1.rep
  split at e <;> (first | (cases e; done) | skip)
  rename_i c fs ed
  split at e <;> (first | (cases e; done) | skip)
  rename_i hc
  split at e <;> (first | (cases e; done) | skip)
  rename_i d el
  split at e <;> (first | (cases e; done) | skip)
  rename_i hn
  cases e
  obtain ⟨C, hC, EC, hno⟩ := hcs c (by simpa using hc)
  rw [ed] at r1
  cases r1 with
  | exc0 h f c' => cases el
  | exc h hd f fd c' r =>
    rw [hC] at c'
    cases c'
    obtain ⟨u, hu, ru⟩ := repF_lookup r el
    exact ⟨_, _, _, _, u, rfl, excC_xf EC, hno, h, hd, hu, k _ _ s1 (.pureV (ru.pure hn) hn)⟩
/-- isinstance(e, T) -/
def gIsE (row : List (Nat × Bool)) : Rv → Option Rv := fun x => match x.d with
  | .exc c _ => (match row.lookup c with
    | some b => some ⟨.bl b, 2, []⟩
    | none => none)
  | _ => none
theorem isE_val {K : PySem.W.Frag} {H : Hp} {F : ASet} {v : V} {c : Nat} {fs : List (Str × D)} {C : Addr} (h : Rep K Cl H F v (.exc c fs)) (hC : Cl c = some C) : ∃ a d, v = .ref a ∧ H a = some (exo a C d) ∧ ∀ dx, d = some dx → ∃ fs, H dx = some (exd dx fs) := by
  cases h with
  | exc0 h f c' => rw [hC] at c'; cases c'; exact ⟨_, none, rfl, h, fun _ z => by cases z⟩
  | exc h hd f fd c' r => rw [hC] at c'; cases c'; exact ⟨_, some _, rfl, h, fun _ z => by cases z; exact ⟨_, hd⟩⟩
theorem ve_isE {T : Str} {D : Addr} {row : List (Nat × Bool)} {a : Expr} {p2 : Pos} {f : VE} (hm : X.mg "isinstance" = none) (hmT : X.mg T = some (.ref D)) (hR : KitRow X.K Cl (.ref D) row) (ha : VEok X Cl a f) (hg : Gl X "isinstance" := by rfl) (hgT : Gl X T := by rfl)
    (hdT : (T == ("__debug__" : Str)) = false := by decide)
    (hs : starEach [a, .Name T p2] X.env = (false, eval a X.env) :: starEach [.Name T p2] X.env := by rfl) (hs2 : starEach [.Name T p2] X.env = (false, eval (.Name T p2) X.env) :: starEach [] X.env := by rfl) (hpl : (backTo pos (starEach [.Name T p2] X.env)).any (·.1) = false := by rfl) :
    VEok X Cl (.Call (.Name "isinstance" p) [a, .Name T p2] [] pos) (v1 (gIsE row) f) := by
  obtain ⟨ta, pa, qa⟩ := ha
  refine ⟨_, pe_callB call_isV hg hm (by decide +kernel) (pa_cons pa (pa_cons (pe_glob (v := .ref D) hgT hmT rfl hdT) pa_nil hs2) hs) (by decide) (by decide) hs hpl, fun H0 G σ H env Fs ow r Q S e k => ?_⟩
  unfold v1 at e
  split at e <;> (first | (cases e; done) | skip)
  rename_i x ex
  unfold gIsE at e
  split at e <;> (first | (cases e; done) | skip)
  rename_i c fs ed
  split at e <;> (first | (cases e; done) | skip)
  rename_i b eb
  cases e
  refine qa _ _ _ _ _ _ _ _ _ S ex fun v H1 s1 w1 => ?_
  obtain ⟨F, rr⟩ := w1.rep
  rw [ed] at rr
  obtain ⟨C, hC, EC, hk⟩ := hR c b eb
  obtain ⟨a', d, rfl, ea, hx⟩ := isE_val rr hC
  exact ⟨a', C, d, .ref D, .ref D, b, rfl, EC, ea, hx, fun u ru => ru, hk, k _ _ s1 (.pureV (.bl _) rfl)⟩
theorem ve_isEB {T : Str} {tn : String} {row : List (Nat × Bool)} {a : Expr} {p2 : Pos} {f : VE} (hm : X.mg "isinstance" = none) (hmT : X.mg T = none) (hR : KitRow X.K Cl (.type tn) row) (ha : VEok X Cl a f) (hT : bootBuiltins T = some (.type tn) := by decide +kernel) (hg : Gl X "isinstance" := by rfl) (hgT : Gl X T := by rfl)
    (hnT : T ≠ "__name__" := by decide) (hdT : (T == ("__debug__" : Str)) = false := by decide)
    (hs : starEach [a, .Name T p2] X.env = (false, eval a X.env) :: starEach [.Name T p2] X.env := by rfl) (hs2 : starEach [.Name T p2] X.env = (false, eval (.Name T p2) X.env) :: starEach [] X.env := by rfl) (hpl : (backTo pos (starEach [.Name T p2] X.env)).any (·.1) = false := by rfl) :
    VEok X Cl (.Call (.Name "isinstance" p) [a, .Name T p2] [] pos) (v1 (gIsE row) f) := by
  obtain ⟨ta, pa, qa⟩ := ha
  refine ⟨_, pe_callB call_isV hg hm (by decide +kernel) (pa_cons pa (pa_cons (pe_bltn (v := .ty tn) hgT hmT hT rfl hnT hdT) pa_nil hs2) hs) (by decide) (by decide) hs hpl, fun H0 G σ H env Fs ow r Q S e k => ?_⟩
  unfold v1 at e
  split at e <;> (first | (cases e; done) | skip)
  rename_i x ex
  unfold gIsE at e
  split at e <;> (first | (cases e; done) | skip)
  rename_i c fs ed
  split at e <;> (first | (cases e; done) | skip)
  rename_i b eb
  cases e
  refine qa _ _ _ _ _ _ _ _ _ S ex fun v H1 s1 w1 => ?_
  obtain ⟨F, rr⟩ := w1.rep
  rw [ed] at rr
  obtain ⟨C, hC, EC, hk⟩ := hR c b eb
  obtain ⟨a', d, rfl, ea, hx⟩ := isE_val rr hC
  exact ⟨a', C, d, .ty tn, .type tn, b, rfl, EC, ea, hx, fun u ru => ru, hk, k _ _ s1 (.pureV (.bl _) rfl)⟩
end
end VL

namespace VL
open PySem PySem.Spec L2 PyProof.Rows

section
variable {P : Program} {w : World} {K : PySem.W.Frag} {mg : Str → Option Value} {base : Heap} {Cl : ClsT} {f : Addr} {fd : FuncData} {ps : List Str}
theorem fn_zero {CX : CXT} {k n : Nat} {cf : CF} (hn : ps.length = n) (h : ∀ ds, cf ds = .no) : FnOk P w K mg base CX k f fd ps (spV K Cl n cf) :=
  ⟨fun vs H Q E ⟨ds, G, h1, _⟩ => by rw [h1, hn], fun A outer s H args us vs Q E hr he hb hv ⟨ds, G, h1, r, t, z⟩ => by rw [h ds] at z; exact z.elim⟩
theorem fnH_mk {x : Str} {k n : Nat} {cf : CF} (a : mg x = some (.ref f)) (kf : PySem.W.keepIn K (.ref f) = true) (b : Binds K fd ps []) (F : FnOk P w K mg base (L2.CX P w) k f fd ps (spV K Cl n cf)) : FnH P w K mg base Cl k n x ps cf :=
  ⟨f, fd, a, kf, b, F⟩
end

/-! ### the law itself -/
/-- the law's def: asked with a script, it says True -/
def spEnd (K : PySem.W.Frag) : Sp := fun vs H Q _ => ∃ (a : Addr) (ns : List Int), vs = [.ref a] ∧ SqL K H a (ns.map V.int) ∧ ns.length ≤ 63 ∧ (∀ z ∈ ns, Builtin.Int.intBits z ≤ 1048576) ∧ ∀ H', Q (.bl true) H'
theorem fn_end {P : Program} {w : World} {K : PySem.W.Frag} {mg : Str → Option Value} {base : Heap} {Cl : ClsT} {f : Addr} {fd : FuncData} {ps : List Str} {k : Nat} {cf : CF} (F : FnOk P w K mg base (L2.CX P w) k f fd ps (spV K Cl 1 cf))
    (h : ∀ ns : List Int, ns.length ≤ 63 → (∀ z ∈ ns, Builtin.Int.intBits z ≤ 1048576) → ∃ l, cf [.scr ns] = .ok (.bl true) l) : FnOk P w K mg base (L2.CX P w) k f fd ps (spEnd K) := by
  refine F.imp fun vs H Q E q => ?_
  obtain ⟨a, ns, rfl, hs, hl, hb, hq⟩ := q
  obtain ⟨l, e⟩ := h ns hl hb
  have fin : ∀ G : ASet, FrOk K Cl H G Q E (cf [.scr ns]) := fun G => by
    rw [e]
    intro v H' s r
    obtain ⟨F1, ow, r1, _⟩ := r
    cases r1
    exact hq H'
  rcases hs with hs | hs
  · refine ⟨[.scr ns], fun b => b = a, rfl, .cons (.scr (.inl hs) rfl) .nil, fun b hb => ?_, fin _⟩
    subst hb
    rcases hs with hs | ⟨o, hs⟩
    · rw [hs]; exact fun z => by cases z
    · rw [hs]; exact fun z => by cases z
  · exact ⟨[.scr ns], fun _ => False, rfl, .cons (.scrK fun _ => .inr hs) .nil, fun b hb => hb.elim, fin _⟩
theorem walk {l : PySem.W.OpenLaw} {q : Program} {loose : List Str} {XP : (Str → Option Value) → Heap → Prop} {YP : World → Heap → Prop} {d : DefRec} {K : Params → PySem.W.Frag} {k : Nat} (hn : l.most = some 63) (hdf : d.params.defaults = []) (hr : Room k callerA)
    (hY : ∀ (w : World) (h : Heap), YP w h → (K w.params).In h)
    (F : ∀ (w : World) (mg : Str → Option Value) (fa : Addr) (h : Heap), (K w.params).In h → h.Ns mainGlobals mg → mg d.name = some (.ref fa) →
      ∃ fd : FuncData, (∀ (s : Shared) (u : Value), BindsTo s fd ⟨[u], []⟩ [("script", u)]) ∧ ∀ base : Heap, (K w.params).In base → base.Ns mainGlobals mg → FnOk l.prog w (K w.params) mg base (L2.CX l.prog w) k fa fd ["script"] (spEnd (K w.params))) :
    PySem.W.WalkO q loose XP YP l.row.toRowW d [] (fun f vs => PySem.call f vs) :=
  L2.walk_ofB (n := 63) (k := k) (x := "script") (CX := fun w => L2.CX l.prog w) (sp := fun w => spEnd (K w.params)) hn (by decide) hdf hr hY F (fun w H a ns hl hb hO hS => ⟨a, ns, rfl, hS, hl, hb, fun _ => rfl⟩) fun w H s e s' z => by
    obtain ⟨_, _, _, _, _, _, _, _, _, _, _, _, z⟩ := z
    exact z.elim
end VL

namespace VL
open PySem PySem.Spec L2 PyProof.Rows
def topS (i : Nat) : Stmt := PySem.Challenge.pw_fullhands_k96_errors_built.main.body.getD i (.Pass ⟨0, 0, 0, 0⟩)
def row_CannotMove : List (Nat × Bool) := [(0, false), (1, false), (2, false), (3, false), (4, true), (5, false), (6, false), (7, false), (8, false), (9, false), (10, false), (11, false), (12, false), (13, false), (14, false), (15, false), (16, false), (17, false), (18, false), (19, false), (20, false)]
def row_BadStanding : List (Nat × Bool) := [(0, false), (1, false), (2, false), (3, true), (4, false), (5, false), (6, false), (7, false), (8, false), (9, false), (10, false), (11, false), (12, false), (13, false), (14, false), (15, false), (16, false), (17, false), (18, false), (19, false), (20, false)]
def row_BadText : List (Nat × Bool) := [(0, false), (1, false), (2, true), (3, false), (4, false), (5, false), (6, false), (7, false), (8, false), (9, false), (10, false), (11, false), (12, false), (13, false), (14, false), (15, false), (16, false), (17, false), (18, false), (19, false), (20, false)]
def row_BadTable : List (Nat × Bool) := [(0, false), (1, true), (2, false), (3, false), (4, false), (5, false), (6, false), (7, false), (8, false), (9, false), (10, false), (11, false), (12, false), (13, false), (14, false), (15, false), (16, false), (17, false), (18, false), (19, false), (20, false)]
def row_BadVector : List (Nat × Bool) := [(0, false), (1, false), (2, false), (3, false), (4, false), (5, false), (6, false), (7, false), (8, true), (9, false), (10, false), (11, false), (12, false), (13, false), (14, false), (15, false), (16, false), (17, false), (18, false), (19, false), (20, false)]
def row_TooGreat : List (Nat × Bool) := [(0, false), (1, false), (2, false), (3, false), (4, false), (5, false), (6, false), (7, true), (8, false), (9, false), (10, false), (11, false), (12, false), (13, false), (14, false), (15, false), (16, false), (17, false), (18, false), (19, false), (20, false)]
def row_WrongGround : List (Nat × Bool) := [(0, false), (1, false), (2, false), (3, false), (4, false), (5, false), (6, true), (7, false), (8, false), (9, false), (10, false), (11, false), (12, false), (13, false), (14, false), (15, false), (16, false), (17, false), (18, false), (19, false), (20, false)]
def row_NoSuch : List (Nat × Bool) := [(0, false), (1, false), (2, false), (3, false), (4, false), (5, true), (6, false), (7, false), (8, false), (9, false), (10, false), (11, false), (12, false), (13, false), (14, false), (15, false), (16, false), (17, false), (18, false), (19, false), (20, false)]
def row_InUse : List (Nat × Bool) := [(0, false), (1, false), (2, false), (3, false), (4, false), (5, false), (6, false), (7, false), (8, false), (9, false), (10, false), (11, true), (12, false), (13, false), (14, false), (15, false), (16, false), (17, false), (18, false), (19, false), (20, false)]
def row_BadProgram : List (Nat × Bool) := [(0, false), (1, false), (2, false), (3, false), (4, false), (5, false), (6, false), (7, false), (8, false), (9, false), (10, true), (11, false), (12, false), (13, false), (14, false), (15, false), (16, false), (17, false), (18, false), (19, false), (20, false)]
def row_NotLocal : List (Nat × Bool) := [(0, false), (1, false), (2, false), (3, false), (4, false), (5, false), (6, false), (7, false), (8, false), (9, true), (10, false), (11, false), (12, false), (13, false), (14, false), (15, false), (16, false), (17, false), (18, false), (19, false), (20, false)]
def row_BadDealing : List (Nat × Bool) := [(0, false), (1, false), (2, false), (3, false), (4, false), (5, false), (6, false), (7, false), (8, false), (9, false), (10, false), (11, false), (12, false), (13, false), (14, true), (15, false), (16, false), (17, false), (18, false), (19, false), (20, false)]
def row_BadLot : List (Nat × Bool) := [(0, false), (1, false), (2, false), (3, false), (4, false), (5, false), (6, false), (7, false), (8, false), (9, false), (10, false), (11, false), (12, false), (13, true), (14, false), (15, false), (16, false), (17, false), (18, false), (19, false), (20, false)]
def row_AttemptFailed : List (Nat × Bool) := [(0, false), (1, false), (2, false), (3, false), (4, false), (5, false), (6, false), (7, false), (8, false), (9, false), (10, false), (11, false), (12, true), (13, false), (14, false), (15, false), (16, false), (17, false), (18, false), (19, false), (20, false)]
def row_BadLine : List (Nat × Bool) := [(0, false), (1, false), (2, false), (3, false), (4, false), (5, false), (6, false), (7, false), (8, false), (9, false), (10, false), (11, false), (12, false), (13, false), (14, false), (15, false), (16, false), (17, false), (18, true), (19, false), (20, false)]
def row_Impossible : List (Nat × Bool) := [(0, false), (1, false), (2, false), (3, false), (4, false), (5, false), (6, false), (7, false), (8, false), (9, false), (10, false), (11, false), (12, false), (13, false), (14, false), (15, false), (16, false), (17, true), (18, false), (19, false), (20, false)]
def row_BadLoads : List (Nat × Bool) := [(0, false), (1, false), (2, false), (3, false), (4, false), (5, false), (6, false), (7, false), (8, false), (9, false), (10, false), (11, false), (12, false), (13, false), (14, false), (15, false), (16, true), (17, false), (18, false), (19, false), (20, false)]
def row_NotCore : List (Nat × Bool) := [(0, false), (1, false), (2, false), (3, false), (4, false), (5, false), (6, false), (7, false), (8, false), (9, false), (10, false), (11, false), (12, false), (13, false), (14, false), (15, true), (16, false), (17, false), (18, false), (19, false), (20, false)]
def row_NothingToRedo : List (Nat × Bool) := [(0, false), (1, false), (2, false), (3, false), (4, false), (5, false), (6, false), (7, false), (8, false), (9, false), (10, false), (11, false), (12, false), (13, false), (14, false), (15, false), (16, false), (17, false), (18, false), (19, false), (20, true)]
def row_NothingToUndo : List (Nat × Bool) := [(0, false), (1, false), (2, false), (3, false), (4, false), (5, false), (6, false), (7, false), (8, false), (9, false), (10, false), (11, false), (12, false), (13, false), (14, false), (15, false), (16, false), (17, false), (18, false), (19, true), (20, false)]
def row_FullhandsError : List (Nat × Bool) := [(0, true), (1, true), (2, true), (3, true), (4, true), (5, true), (6, true), (7, true), (8, true), (9, true), (10, true), (11, true), (12, true), (13, true), (14, true), (15, true), (16, true), (17, true), (18, true), (19, true), (20, true)]
def row_ValueError : List (Nat × Bool) := [(0, true), (1, true), (2, true), (3, true), (4, true), (5, true), (6, true), (7, true), (8, true), (9, true), (10, true), (11, true), (12, true), (13, true), (14, true), (15, true), (16, true), (17, true), (18, true), (19, true), (20, true)]
abbrev s_law_mixed : Stmt := topS 23
theorem sc_law_mixed : FnScope ["number", "turn", "first", "second"] ["number", "turn"] (defScope s_law_mixed) := ⟨rfl, rfl, rfl, by decide +kernel, rfl, by decide +kernel, by decide +kernel⟩
def b_law_mixed : VS := vSeq (vSet 2 (v2 (gIC (fun _ j => decide (0 < j)) fun i j => .int (i % j)) (vCall (g1 gInt) (vCons (v2 gAdd (v2 gAdd (v2 gMul (vName 0) (vC (.int 48271))) (v2 gMul (vName 1) (vC (.int 69621)))) (vC (.int 11))) (fun _ => some []))) (vC (.int 2147483647))))
  (vSeq (vSet 3 (v2 (gIC (fun _ j => decide (0 < j)) fun i j => .int (i % j)) (vCall (g1 gInt) (vCons (v2 gAdd (v2 gAdd (v2 gMul (vName 2) (vName 2)) (v2 gMul (vName 1) (vC (.int 40692)))) (vC (.int 7))) (fun _ => some []))) (vC (.int 2147483399))))
  (vRet (v2 (gIC (fun _ j => decide (0 < j)) fun i j => .int (i % j)) (vCall (g1 gInt) (vCons (v2 (gIC (fun _ j => decide (0 < j) && decide (j < 1073741824)) fun i j => .int (i / j)) (vName 3) (vC (.int 7))) (fun _ => some []))) (vC (.int 1000)))))
def c_law_mixed : CF := vDef 4 b_law_mixed
set_option maxHeartbeats 4000000 in
theorem ok_law_mixed {P : Program} {w : World} {K : PySem.W.Frag} {mg : Str → Option Value} {base : Heap} {Cl : ClsT} {f : Addr} {fd : FuncData} (F : Fun K "_law_mixed" "_law_mixed" s_law_mixed f fd) (B_int : mg "int" = none) : FnOk P w K mg base (L2.CX P w) 1 f fd ["number", "turn"] (spV K Cl 2 c_law_mixed) := by
  refine fn_v F sc_law_mixed rfl (fun cdv A outer s H E hr => ?_)
  have nd := sc_law_mixed.nd
  have hp : PassesOwn (model P w) (bodyCx P w K mg base ["number", "turn", "first", "second"] "_law_mixed" s_law_mixed f cdv A outer s H E).A (bodyCx P w K mg base ["number", "turn", "first", "second"] "_law_mixed" s_law_mixed f cdv A outer s H E).env (bodyCx P w K mg base ["number", "turn", "first", "second"] "_law_mixed" s_law_mixed f cdv A outer s H E).xe := passes_of rfl
  have hu := hr.units
  have hu5 := room65 hr
  exact (vb_cons (vs_set 2 nd (ve_mod (ve_intc B_int (va_cons (ve_add (ve_add (ve_mul (ve_name 0) (ve_int)) (ve_mul (ve_name 1) (ve_int))) (ve_int)) va_nil)) (ve_int)))
  (vb_cons (vs_set 3 nd (ve_mod (ve_intc B_int (va_cons (ve_add (ve_add (ve_mul (ve_name 2) (ve_name 2)) (ve_mul (ve_name 1) (ve_int))) (ve_int)) va_nil)) (ve_int)))
  (vb_one (vs_ret (ve_mod (ve_intc B_int (va_cons (ve_fdiv (ve_name 3) (ve_int)) va_nil)) (ve_int))))))
abbrev s_law_pool : Stmt := topS 24
theorem sc_law_pool : FnScope ["script", "many", "cells", "cell", "digits", "row", "rest", "turn", "pool", "k", "at"] ["script", "many"] (defScope s_law_pool) := ⟨rfl, rfl, rfl, by decide +kernel, rfl, by decide +kernel, by decide +kernel⟩
def b_law_pool : VS := vSeq (vSet 2 (vComp (iSeq (vSlice (vName 0) (fun _ => some none) (vPart (vC (.int 63))))) [3] (gN 3) (fun _ => some true) (vCall (g1 gAbs) (vCons (vCall (g1 gInt) (vCons (vName 3) (fun _ => some []))) (fun _ => some [])))))
  (vSeq (vIfS (tB_ (v2 (gEq false) (vName 2) (vLst (fun _ => some [])))) (vSet 2 (vLst (vCons (vC (.int 0)) (fun _ => some [])))) ((fun e => .nx e)))
  (vSeq (vSet 4 (vLst (fun _ => some [])))
  (vSeq (vFor (iSeq (vName 2)) (gN 3) (vSeq (vSet 5 (vLst (fun _ => some [])))
  (vSeq (vSet 6 (vName 3))
  (vSeq (vIfS (tB_ (v2 (gI fun i j => .bl (decide (j ≤ i))) (vName 3) (v2 (gIC (fun i j => decide (0 ≤ j) && (decide (j ≤ 1000000) && decide (i.natAbs < 2 ^ 64))) fun i j => .int (i ^ j.toNat)) (vC (.int 10)) (vC (.int 18))))) (vFor (iRange1 (vCons (vC (.int 90)) (fun _ => some []))) (gN 7) (vIfS (tB_ (v2 (gI fun i j => .bl (decide (j < i))) (vName 6) (vC (.int 0)))) (vSeq (vApp 5 (v2 (gIC (fun _ j => decide (0 < j)) fun i j => .int (i % j)) (vCall (g1 gInt) (vCons (vName 6) (fun _ => some []))) (vC (.int 1000))))
  (vSet 6 (v2 (gIC (fun _ j => decide (0 < j) && decide (j < 1073741824)) fun i j => .int (i / j)) (vName 6) (vC (.int 1000))))) ((fun e => .nx e)))) ((fun e => .nx e)))
  (vApp 4 (vName 5))))))
  (vSeq (vSet 8 (vLst (fun _ => some [])))
  (vSeq (vFor (iRange1 (vCons (vName 1) (fun _ => some []))) (gN 9) (vSeq (vSet 10 (v2 (gIC (fun _ j => decide (0 < j)) fun i j => .int (i % j)) (vCall (g1 gInt) (vCons (vName 9) (fun _ => some []))) (vCall (g1 gLen) (vCons (vName 2) (fun _ => some [])))))
  (vSeq (vSet 7 (v2 (gIC (fun _ j => decide (0 < j) && decide (j < 1073741824)) fun i j => .int (i / j)) (vName 9) (vCall (g1 gLen) (vCons (vName 2) (fun _ => some [])))))
  (vIfS (tB_ (v2 (gI fun i j => .bl (decide (i < j))) (vName 7) (vCall (g1 gLen) (vCons (v2 gIx (vName 4) (vName 10)) (fun _ => some []))))) (vApp 8 (v2 gIx (v2 gIx (vName 4) (vName 10)) (vName 7))) (vApp 8 (vCallF c_law_mixed (vCons (v2 gAdd (v2 (gIC (fun _ j => decide (0 < j)) fun i j => .int (i % j)) (vCall (g1 gInt) (vCons (v2 gIx (vName 2) (vName 10)) (fun _ => some []))) (vC (.int 1000003))) (v2 gMul (vC (.int 7919)) (vName 10))) (vCons (v2 gAdd (vName 7) (vC (.int 1))) (fun _ => some [])))))))))
  (vRetName 8))))))
def c_law_pool : CF := vDef 11 b_law_pool
set_option maxHeartbeats 4000000 in
theorem ok_law_pool {P : Program} {w : World} {K : PySem.W.Frag} {mg : Str → Option Value} {base : Heap} {Cl : ClsT} {f : Addr} {fd : FuncData} (F : Fun K "_law_pool" "_law_pool" s_law_pool f fd) (B_abs : mg "abs" = none) (B_int : mg "int" = none) (B_len : mg "len" = none) (B_range : mg "range" = none) (H_law_mixed : FnH P w K mg base Cl 1 2 "_law_mixed" ["number", "turn"] c_law_mixed) : FnOk P w K mg base (L2.CX P w) 2 f fd ["script", "many"] (spV K Cl 2 c_law_pool) := by
  refine fn_v F sc_law_pool rfl (fun cdv A outer s H E hr => ?_)
  have nd := sc_law_pool.nd
  have hp : PassesOwn (model P w) (bodyCx P w K mg base ["script", "many", "cells", "cell", "digits", "row", "rest", "turn", "pool", "k", "at"] "_law_pool" s_law_pool f cdv A outer s H E).A (bodyCx P w K mg base ["script", "many", "cells", "cell", "digits", "row", "rest", "turn", "pool", "k", "at"] "_law_pool" s_law_pool f cdv A outer s H E).env (bodyCx P w K mg base ["script", "many", "cells", "cell", "digits", "row", "rest", "turn", "pool", "k", "at"] "_law_pool" s_law_pool f cdv A outer s H E).xe := passes_of rfl
  have hu := hr.units
  have hu5 := room65 hr
  exact (vb_cons (vs_setLc 2 (own := [("cell", 3)]) rfl nd (vi_seq (ve_slice (ve_name 0) vo_none (vo_some (ve_int)))) (blkOk_by (N := ["script", "many", "cells", "cell", "digits", "row", "rest", "turn", "pool", "k", "at"]) (sc := defScope s_law_pool) (by decide +kernel)) (fun _ _ _ _ _ => vg_name 3 nd) (fun _ _ _ _ _ => vts_nil) (fun _ _ _ _ _ => ve_abs B_abs (va_cons (ve_intc B_int (va_cons (ve_name 3) va_nil)) va_nil)) (by decide))
  (vb_cons (vs_if (vt_eq hu (ve_name 2) (ve_lst va_nil)) (vb_one (vs_set 2 nd (ve_lst (va_cons (ve_int) va_nil)))) (vb_nil))
  (vb_cons (vs_set 4 nd (ve_lst va_nil))
  (vb_cons (vs_for hp rfl (vi_seq (ve_name 2)) (vg_name 3 nd) (vb_cons (vs_set 5 nd (ve_lst va_nil))
  (vb_cons (vs_set 6 nd (ve_name 3))
  (vb_cons (vs_if (vt_ge (ve_name 3) (ve_pow (ve_int) (ve_int))) (vb_one (vs_for hp rfl (vi_range1 B_range (va_cons (ve_int) va_nil)) (vg_name 7 nd) (vb_one (vs_if (vt_gt (ve_name 6) (ve_int)) (vb_cons (vs_append 5 (ve_mod (ve_intc B_int (va_cons (ve_name 6) va_nil)) (ve_int)))
  (vb_one (vs_set 6 nd (ve_fdiv (ve_name 6) (ve_int))))) (vb_nil))))) (vb_nil))
  (vb_one (vs_append 4 (ve_name 5)))))))
  (vb_cons (vs_set 8 nd (ve_lst va_nil))
  (vb_cons (vs_for hp rfl (vi_range1 B_range (va_cons (ve_name 1) va_nil)) (vg_name 9 nd) (vb_cons (vs_set 10 nd (ve_mod (ve_intc B_int (va_cons (ve_name 9) va_nil)) (ve_len B_len (va_cons (ve_name 2) va_nil))))
  (vb_cons (vs_set 7 nd (ve_fdiv (ve_name 9) (ve_len B_len (va_cons (ve_name 2) va_nil))))
  (vb_one (vs_if (vt_lt (ve_name 7) (ve_len B_len (va_cons (ve_ix (ve_name 4) (ve_name 10)) va_nil))) (vb_one (vs_append 8 (ve_ix (ve_ix (ve_name 4) (ve_name 10)) (ve_name 7)))) (vb_one (vs_append 8 (ve_callH H_law_mixed (hr.mono (by decide)) rfl (va_cons (ve_add (ve_mod (ve_intc B_int (va_cons (ve_ix (ve_name 2) (ve_name 10)) va_nil)) (ve_int)) (ve_mul (ve_int) (ve_name 10))) (va_cons (ve_add (ve_name 7) (ve_int)) va_nil)) (len_cons (len_cons len_nil))))))))))
  (vb_one (vs_retName 8))))))))
abbrev s_law_word : Stmt := topS 26
theorem sc_law_word : FnScope ["pool", "at", "menu"] ["pool", "at"] (defScope s_law_word) := ⟨rfl, rfl, rfl, by decide +kernel, rfl, by decide +kernel, by decide +kernel⟩
def b_law_word : VS := vSeq (vSet 2 (vLst (vCons (vC (.str "people")) (vCons (vC (.str "hands")) (vCons (vC (.str "ties")) (vCons (vC (.str "web")) (vCons (vC (.str "kinds")) (vCons (vC (.str "quick")) (vCons (vC (.str "shares")) (vCons (vC (.str "rows")) (vCons (vC (.str "places")) (vCons (vC (.str "most")) (vCons (vC (.str "share")) (vCons (vC (.str "none")) (fun _ => some [])))))))))))))))
  (vSeq (vSet 2 (v2 gAdd (vName 2) (vLst (vCons (vC (.str "unknown")) (vCons (vC (.str "tree")) (vCons (vC (.str "one hand")) (vCons (vC (.str "no quick")) (vCons (vC (.str "events")) (vCons (vC (.str "")) (fun _ => some []))))))))))
  (vRet (v2 gIx (vName 2) (v2 (gIC (fun _ j => decide (0 < j)) fun i j => .int (i % j)) (vCall (g1 gInt) (vCons (v2 gIx (vName 0) (vName 1)) (fun _ => some []))) (vC (.int 18))))))
def c_law_word : CF := vDef 3 b_law_word
set_option maxHeartbeats 4000000 in
theorem ok_law_word {P : Program} {w : World} {K : PySem.W.Frag} {mg : Str → Option Value} {base : Heap} {Cl : ClsT} {f : Addr} {fd : FuncData} (F : Fun K "_law_word" "_law_word" s_law_word f fd) (B_int : mg "int" = none) : FnOk P w K mg base (L2.CX P w) 1 f fd ["pool", "at"] (spV K Cl 2 c_law_word) := by
  refine fn_v F sc_law_word rfl (fun cdv A outer s H E hr => ?_)
  have nd := sc_law_word.nd
  have hp : PassesOwn (model P w) (bodyCx P w K mg base ["pool", "at", "menu"] "_law_word" s_law_word f cdv A outer s H E).A (bodyCx P w K mg base ["pool", "at", "menu"] "_law_word" s_law_word f cdv A outer s H E).env (bodyCx P w K mg base ["pool", "at", "menu"] "_law_word" s_law_word f cdv A outer s H E).xe := passes_of rfl
  have hu := hr.units
  have hu5 := room65 hr
  exact (vb_cons (vs_set 2 nd (ve_lst (va_cons (ve_str) (va_cons (ve_str) (va_cons (ve_str) (va_cons (ve_str) (va_cons (ve_str) (va_cons (ve_str) (va_cons (ve_str) (va_cons (ve_str) (va_cons (ve_str) (va_cons (ve_str) (va_cons (ve_str) (va_cons (ve_str) va_nil))))))))))))))
  (vb_cons (vs_set 2 nd (ve_add (ve_name 2) (ve_lst (va_cons (ve_str) (va_cons (ve_str) (va_cons (ve_str) (va_cons (ve_str) (va_cons (ve_str) (va_cons (ve_str) va_nil)))))))))
  (vb_one (vs_ret (ve_ix (ve_name 2) (ve_mod (ve_intc B_int (va_cons (ve_ix (ve_name 0) (ve_name 1)) va_nil)) (ve_int)))))))
abbrev s_law_number : Stmt := topS 27
theorem sc_law_number : FnScope ["pool", "at", "form"] ["pool", "at"] (defScope s_law_number) := ⟨rfl, rfl, rfl, by decide +kernel, rfl, by decide +kernel, by decide +kernel⟩
def b_law_number : VS := vSeq (vSet 2 (v2 (gIC (fun _ j => decide (0 < j)) fun i j => .int (i % j)) (vCall (g1 gInt) (vCons (v2 gIx (vName 0) (vName 1)) (fun _ => some []))) (vC (.int 4))))
  (vSeq (vIfS (tB_ (v2 (gEq false) (vName 2) (vC (.int 1)))) (vRet (v2 (gI fun i j => .int (i - j)) (vNeg (vC (.int 1))) (vCall (g1 gInt) (vCons (v2 gIx (vName 0) (v2 gAdd (vName 1) (vC (.int 1)))) (fun _ => some []))))) ((fun e => .nx e)))
  (vSeq (vIfS (tB_ (v2 (gEq false) (vName 2) (vC (.int 2)))) (vRet (v2 gAdd (v2 gMul (v2 (gIC (fun i j => decide (0 ≤ j) && (decide (j ≤ 1000000) && decide (i.natAbs < 2 ^ 64))) fun i j => .int (i ^ j.toNat)) (vC (.int 10)) (vC (.int 27))) (v2 gAdd (vC (.int 1)) (vCall (g1 gInt) (vCons (v2 gIx (vName 0) (v2 gAdd (vName 1) (vC (.int 1)))) (fun _ => some []))))) (vCall (g1 gInt) (vCons (v2 gIx (vName 0) (vName 1)) (fun _ => some []))))) ((fun e => .nx e)))
  (vRet (vCall (g1 gInt) (vCons (v2 gIx (vName 0) (v2 gAdd (vName 1) (vC (.int 1)))) (fun _ => some []))))))
def c_law_number : CF := vDef 3 b_law_number
set_option maxHeartbeats 4000000 in
theorem ok_law_number {P : Program} {w : World} {K : PySem.W.Frag} {mg : Str → Option Value} {base : Heap} {Cl : ClsT} {f : Addr} {fd : FuncData} (F : Fun K "_law_number" "_law_number" s_law_number f fd) (B_int : mg "int" = none) : FnOk P w K mg base (L2.CX P w) 1 f fd ["pool", "at"] (spV K Cl 2 c_law_number) := by
  refine fn_v F sc_law_number rfl (fun cdv A outer s H E hr => ?_)
  have nd := sc_law_number.nd
  have hp : PassesOwn (model P w) (bodyCx P w K mg base ["pool", "at", "form"] "_law_number" s_law_number f cdv A outer s H E).A (bodyCx P w K mg base ["pool", "at", "form"] "_law_number" s_law_number f cdv A outer s H E).env (bodyCx P w K mg base ["pool", "at", "form"] "_law_number" s_law_number f cdv A outer s H E).xe := passes_of rfl
  have hu := hr.units
  have hu5 := room65 hr
  exact (vb_cons (vs_set 2 nd (ve_mod (ve_intc B_int (va_cons (ve_ix (ve_name 0) (ve_name 1)) va_nil)) (ve_int)))
  (vb_cons (vs_if (vt_eq hu (ve_name 2) (ve_int)) (vb_one (vs_ret (ve_sub (ve_neg (ve_int)) (ve_intc B_int (va_cons (ve_ix (ve_name 0) (ve_add (ve_name 1) (ve_int))) va_nil))))) (vb_nil))
  (vb_cons (vs_if (vt_eq hu (ve_name 2) (ve_int)) (vb_one (vs_ret (ve_add (ve_mul (ve_pow (ve_int) (ve_int)) (ve_add (ve_int) (ve_intc B_int (va_cons (ve_ix (ve_name 0) (ve_add (ve_name 1) (ve_int))) va_nil)))) (ve_intc B_int (va_cons (ve_ix (ve_name 0) (ve_name 1)) va_nil))))) (vb_nil))
  (vb_one (vs_ret (ve_intc B_int (va_cons (ve_ix (ve_name 0) (ve_add (ve_name 1) (ve_int))) va_nil)))))))
abbrev s_law_fields_of : Stmt := topS 28
theorem sc_law_fields_of : FnScope ["pool", "start", "words", "k", "numbers", "rows"] ["pool", "start"] (defScope s_law_fields_of) := ⟨rfl, rfl, rfl, by decide +kernel, rfl, by decide +kernel, by decide +kernel⟩
def b_law_fields_of : VS := vSeq (vSet 2 (vComp (iRange1 (vCons (vC (.int 7)) (fun _ => some []))) [3] (gN 3) (fun _ => some true) (vCallF c_law_word (vCons (vName 0) (vCons (v2 gAdd (vName 1) (vName 3)) (fun _ => some []))))))
  (vSeq (vSet 4 (vComp (iRange1 (vCons (vC (.int 9)) (fun _ => some []))) [3] (gN 3) (fun _ => some true) (vCallF c_law_number (vCons (vName 0) (vCons (v2 gAdd (v2 gAdd (vName 1) (vC (.int 7))) (v2 gMul (vC (.int 2)) (vName 3))) (fun _ => some []))))))
  (vSeq (vSet 5 (vLst (vCons (vTup (vCons (v2 gIx (vName 2) (vC (.int 0))) (vCons (v2 gIx (vName 4) (vC (.int 0))) (fun _ => some [])))) (vCons (vTup (vCons (v2 gIx (vName 4) (vC (.int 1))) (fun _ => some []))) (vCons (vTup (vCons (v2 gIx (vName 2) (vC (.int 1))) (vCons (v2 gIx (vName 4) (vC (.int 2))) (fun _ => some [])))) (vCons (vTup (vCons (v2 gIx (vName 4) (vC (.int 3))) (vCons (v2 gIx (vName 2) (vC (.int 2))) (fun _ => some [])))) (vCons (vTup (vCons (v2 gIx (vName 2) (vC (.int 3))) (fun _ => some []))) (fun _ => some []))))))))
  (vSeq (vSet 5 (v2 gAdd (vName 5) (vLst (vCons (vTup (vCons (v2 gIx (vName 2) (vC (.int 4))) (fun _ => some []))) (vCons (vTup (vCons (v2 gIx (vName 2) (vC (.int 5))) (fun _ => some []))) (vCons (vTup (vCons (v2 gIx (vName 4) (vC (.int 4))) (fun _ => some []))) (vCons (vTup (vCons (v2 gIx (vName 4) (vC (.int 5))) (fun _ => some []))) (vCons (vTup (vCons (v2 gIx (vName 4) (vC (.int 6))) (vCons (v2 gIx (vName 4) (vC (.int 7))) (fun _ => some [])))) (vCons (vTup (vCons (v2 gIx (vName 2) (vC (.int 6))) (fun _ => some []))) (fun _ => some []))))))))))
  (vRet (v2 gAdd (vName 5) (vLst (vCons (vTup (vCons (v2 gIx (vName 4) (vC (.int 8))) (fun _ => some []))) (vCons (vTup (fun _ => some [])) (vCons (vTup (fun _ => some [])) (vCons (vTup (fun _ => some [])) (vCons (vTup (fun _ => some [])) (vCons (vTup (fun _ => some [])) (vCons (vTup (fun _ => some [])) (vCons (vTup (fun _ => some [])) (vCons (vTup (fun _ => some [])) (fun _ => some []))))))))))))))))
def c_law_fields_of : CF := vDef 6 b_law_fields_of
set_option maxHeartbeats 4000000 in
theorem ok_law_fields_of {P : Program} {w : World} {K : PySem.W.Frag} {mg : Str → Option Value} {base : Heap} {Cl : ClsT} {f : Addr} {fd : FuncData} (F : Fun K "_law_fields_of" "_law_fields_of" s_law_fields_of f fd) (B_range : mg "range" = none) (H_law_word : FnH P w K mg base Cl 1 2 "_law_word" ["pool", "at"] c_law_word) (H_law_number : FnH P w K mg base Cl 1 2 "_law_number" ["pool", "at"] c_law_number) : FnOk P w K mg base (L2.CX P w) 2 f fd ["pool", "start"] (spV K Cl 2 c_law_fields_of) := by
  refine fn_v F sc_law_fields_of rfl (fun cdv A outer s H E hr => ?_)
  have nd := sc_law_fields_of.nd
  have hp : PassesOwn (model P w) (bodyCx P w K mg base ["pool", "start", "words", "k", "numbers", "rows"] "_law_fields_of" s_law_fields_of f cdv A outer s H E).A (bodyCx P w K mg base ["pool", "start", "words", "k", "numbers", "rows"] "_law_fields_of" s_law_fields_of f cdv A outer s H E).env (bodyCx P w K mg base ["pool", "start", "words", "k", "numbers", "rows"] "_law_fields_of" s_law_fields_of f cdv A outer s H E).xe := passes_of rfl
  have hu := hr.units
  have hu5 := room65 hr
  exact (vb_cons (vs_setLc 2 (own := [("k", 3)]) rfl nd (vi_range1 B_range (va_cons (ve_int) va_nil)) (blkOk_by (N := ["pool", "start", "words", "k", "numbers", "rows"]) (sc := defScope s_law_fields_of) (by decide +kernel)) (fun _ _ _ _ _ => vg_name 3 nd) (fun _ _ _ _ _ => vts_nil) (fun _ _ _ _ _ => ve_callH H_law_word (hr.mono (by decide)) rfl (va_cons (ve_name 0) (va_cons (ve_add (ve_name 1) (ve_name 3)) va_nil)) (len_cons (len_cons len_nil))) (by decide))
  (vb_cons (vs_setLc 4 (own := [("k", 3)]) rfl nd (vi_range1 B_range (va_cons (ve_int) va_nil)) (blkOk_by (N := ["pool", "start", "words", "k", "numbers", "rows"]) (sc := defScope s_law_fields_of) (by decide +kernel)) (fun _ _ _ _ _ => vg_name 3 nd) (fun _ _ _ _ _ => vts_nil) (fun _ _ _ _ _ => ve_callH H_law_number (hr.mono (by decide)) rfl (va_cons (ve_name 0) (va_cons (ve_add (ve_add (ve_name 1) (ve_int)) (ve_mul (ve_int) (ve_name 3))) va_nil)) (len_cons (len_cons len_nil))) (by decide))
  (vb_cons (vs_set 5 nd (ve_lst (va_cons (ve_tup (va_cons (ve_ix (ve_name 2) (ve_int)) (va_cons (ve_ix (ve_name 4) (ve_int)) va_nil))) (va_cons (ve_tup (va_cons (ve_ix (ve_name 4) (ve_int)) va_nil)) (va_cons (ve_tup (va_cons (ve_ix (ve_name 2) (ve_int)) (va_cons (ve_ix (ve_name 4) (ve_int)) va_nil))) (va_cons (ve_tup (va_cons (ve_ix (ve_name 4) (ve_int)) (va_cons (ve_ix (ve_name 2) (ve_int)) va_nil))) (va_cons (ve_tup (va_cons (ve_ix (ve_name 2) (ve_int)) va_nil)) va_nil)))))))
  (vb_cons (vs_set 5 nd (ve_add (ve_name 5) (ve_lst (va_cons (ve_tup (va_cons (ve_ix (ve_name 2) (ve_int)) va_nil)) (va_cons (ve_tup (va_cons (ve_ix (ve_name 2) (ve_int)) va_nil)) (va_cons (ve_tup (va_cons (ve_ix (ve_name 4) (ve_int)) va_nil)) (va_cons (ve_tup (va_cons (ve_ix (ve_name 4) (ve_int)) va_nil)) (va_cons (ve_tup (va_cons (ve_ix (ve_name 4) (ve_int)) (va_cons (ve_ix (ve_name 4) (ve_int)) va_nil))) (va_cons (ve_tup (va_cons (ve_ix (ve_name 2) (ve_int)) va_nil)) va_nil)))))))))
  (vb_one (vs_ret (ve_add (ve_name 5) (ve_lst (va_cons (ve_tup (va_cons (ve_ix (ve_name 4) (ve_int)) va_nil)) (va_cons (ve_tup va_nil) (va_cons (ve_tup va_nil) (va_cons (ve_tup va_nil) (va_cons (ve_tup va_nil) (va_cons (ve_tup va_nil) (va_cons (ve_tup va_nil) (va_cons (ve_tup va_nil) (va_cons (ve_tup va_nil) va_nil)))))))))))))))))
abbrev s_law_made : Stmt := topS 29
theorem sc_law_made : FnScope ["rows", "found"] ["rows"] (defScope s_law_made) := ⟨rfl, rfl, rfl, by decide +kernel, rfl, by decide +kernel, by decide +kernel⟩
def b_law_made : VS := vSeq (vSet 1 (vLst (vCons (vErr 1 ["place", "index"] (vCons (v2 gIx (v2 gIx (vName 0) (vC (.int 0))) (vC (.int 0))) (vCons (v2 gIx (v2 gIx (vName 0) (vC (.int 0))) (vC (.int 1))) (fun _ => some [])))) (vCons (vErr 2 ["line"] (vCons (v2 gIx (v2 gIx (vName 0) (vC (.int 1))) (vC (.int 0))) (fun _ => some []))) (vCons (vErr 3 ["place", "index"] (vCons (v2 gIx (v2 gIx (vName 0) (vC (.int 2))) (vC (.int 0))) (vCons (v2 gIx (v2 gIx (vName 0) (vC (.int 2))) (vC (.int 1))) (fun _ => some [])))) (fun _ => some []))))))
  (vSeq (vSet 1 (v2 gAdd (vName 1) (vLst (vCons (vErr 4 ["index", "reason"] (vCons (v2 gIx (v2 gIx (vName 0) (vC (.int 3))) (vC (.int 0))) (vCons (v2 gIx (v2 gIx (vName 0) (vC (.int 3))) (vC (.int 1))) (fun _ => some [])))) (vCons (vErr 5 ["what"] (vCons (v2 gIx (v2 gIx (vName 0) (vC (.int 4))) (vC (.int 0))) (fun _ => some []))) (vCons (vErr 6 ["needed"] (vCons (v2 gIx (v2 gIx (vName 0) (vC (.int 5))) (vC (.int 0))) (fun _ => some []))) (fun _ => some [])))))))
  (vSeq (vSet 1 (v2 gAdd (vName 1) (vLst (vCons (vErr 7 ["what"] (vCons (v2 gIx (v2 gIx (vName 0) (vC (.int 6))) (vC (.int 0))) (fun _ => some []))) (vCons (vErr 8 ["index"] (vCons (v2 gIx (v2 gIx (vName 0) (vC (.int 7))) (vC (.int 0))) (fun _ => some []))) (vCons (vErr 9 ["kind"] (vCons (v2 gIx (v2 gIx (vName 0) (vC (.int 8))) (vC (.int 0))) (fun _ => some []))) (fun _ => some [])))))))
  (vSeq (vSet 1 (v2 gAdd (vName 1) (vLst (vCons (vErr 10 ["line", "word"] (vCons (v2 gIx (v2 gIx (vName 0) (vC (.int 9))) (vC (.int 0))) (vCons (v2 gIx (v2 gIx (vName 0) (vC (.int 9))) (vC (.int 1))) (fun _ => some [])))) (vCons (vErr 11 ["what"] (vCons (v2 gIx (v2 gIx (vName 0) (vC (.int 10))) (vC (.int 0))) (fun _ => some []))) (vCons (vErr 12 ["index"] (vCons (v2 gIx (v2 gIx (vName 0) (vC (.int 11))) (vC (.int 0))) (fun _ => some []))) (fun _ => some [])))))))
  (vSeq (vSet 1 (v2 gAdd (vName 1) (vLst (vCons (vErr0 13) (vCons (vErr0 14) (vCons (vErr0 15) (vCons (vErr0 16) (vCons (vErr0 17) (vCons (vErr0 18) (fun _ => some []))))))))))
  (vRet (v2 gAdd (vName 1) (vLst (vCons (vErr0 19) (vCons (vErr0 20) (fun _ => some []))))))))))
def c_law_made : CF := vDef 2 b_law_made
set_option maxHeartbeats 4000000 in
theorem ok_law_made {P : Program} {w : World} {K : PySem.W.Frag} {mg : Str → Option Value} {base : Heap} {Cl : ClsT} {f : Addr} {fd : FuncData} (F : Fun K "_law_made" "_law_made" s_law_made f fd) (E_BadStanding : ErrI P w K mg base Cl 3 "BadStanding" ["place", "index"]) (E_BadText : ErrI P w K mg base Cl 2 "BadText" ["line"]) (E_BadTable : ErrI P w K mg base Cl 1 "BadTable" ["place", "index"]) (E_WrongGround : ErrI P w K mg base Cl 6 "WrongGround" ["needed"]) (E_NoSuch : ErrI P w K mg base Cl 5 "NoSuch" ["what"]) (E_CannotMove : ErrI P w K mg base Cl 4 "CannotMove" ["index", "reason"]) (E_NotLocal : ErrI P w K mg base Cl 9 "NotLocal" ["kind"]) (E_BadVector : ErrI P w K mg base Cl 8 "BadVector" ["index"]) (E_TooGreat : ErrI P w K mg base Cl 7 "TooGreat" ["what"]) (E_AttemptFailed : ErrI P w K mg base Cl 12 "AttemptFailed" ["index"]) (E_InUse : ErrI P w K mg base Cl 11 "InUse" ["what"]) (E_BadProgram : ErrI P w K mg base Cl 10 "BadProgram" ["line", "word"]) (E_BadLine : Err0 K mg Cl 18 "BadLine") (E_Impossible : Err0 K mg Cl 17 "Impossible") (E_BadLoads : Err0 K mg Cl 16 "BadLoads") (E_NotCore : Err0 K mg Cl 15 "NotCore") (E_BadDealing : Err0 K mg Cl 14 "BadDealing") (E_BadLot : Err0 K mg Cl 13 "BadLot") (E_NothingToRedo : Err0 K mg Cl 20 "NothingToRedo") (E_NothingToUndo : Err0 K mg Cl 19 "NothingToUndo") : FnOk P w K mg base (L2.CX P w) 3 f fd ["rows"] (spV K Cl 1 c_law_made) := by
  refine fn_v F sc_law_made rfl (fun cdv A outer s H E hr => ?_)
  have nd := sc_law_made.nd
  have hp : PassesOwn (model P w) (bodyCx P w K mg base ["rows", "found"] "_law_made" s_law_made f cdv A outer s H E).A (bodyCx P w K mg base ["rows", "found"] "_law_made" s_law_made f cdv A outer s H E).env (bodyCx P w K mg base ["rows", "found"] "_law_made" s_law_made f cdv A outer s H E).xe := passes_of rfl
  have hu := hr.units
  have hu5 := room65 hr
  exact (vb_cons (vs_set 1 nd (ve_lst (va_cons (ve_err E_BadTable (hr.mono (by decide)) (va_cons (ve_ix (ve_ix (ve_name 0) (ve_int)) (ve_int)) (va_cons (ve_ix (ve_ix (ve_name 0) (ve_int)) (ve_int)) va_nil))) (va_cons (ve_err E_BadText (hr.mono (by decide)) (va_cons (ve_ix (ve_ix (ve_name 0) (ve_int)) (ve_int)) va_nil)) (va_cons (ve_err E_BadStanding (hr.mono (by decide)) (va_cons (ve_ix (ve_ix (ve_name 0) (ve_int)) (ve_int)) (va_cons (ve_ix (ve_ix (ve_name 0) (ve_int)) (ve_int)) va_nil))) va_nil)))))
  (vb_cons (vs_set 1 nd (ve_add (ve_name 1) (ve_lst (va_cons (ve_err E_CannotMove (hr.mono (by decide)) (va_cons (ve_ix (ve_ix (ve_name 0) (ve_int)) (ve_int)) (va_cons (ve_ix (ve_ix (ve_name 0) (ve_int)) (ve_int)) va_nil))) (va_cons (ve_err E_NoSuch (hr.mono (by decide)) (va_cons (ve_ix (ve_ix (ve_name 0) (ve_int)) (ve_int)) va_nil)) (va_cons (ve_err E_WrongGround (hr.mono (by decide)) (va_cons (ve_ix (ve_ix (ve_name 0) (ve_int)) (ve_int)) va_nil)) va_nil))))))
  (vb_cons (vs_set 1 nd (ve_add (ve_name 1) (ve_lst (va_cons (ve_err E_TooGreat (hr.mono (by decide)) (va_cons (ve_ix (ve_ix (ve_name 0) (ve_int)) (ve_int)) va_nil)) (va_cons (ve_err E_BadVector (hr.mono (by decide)) (va_cons (ve_ix (ve_ix (ve_name 0) (ve_int)) (ve_int)) va_nil)) (va_cons (ve_err E_NotLocal (hr.mono (by decide)) (va_cons (ve_ix (ve_ix (ve_name 0) (ve_int)) (ve_int)) va_nil)) va_nil))))))
  (vb_cons (vs_set 1 nd (ve_add (ve_name 1) (ve_lst (va_cons (ve_err E_BadProgram (hr.mono (by decide)) (va_cons (ve_ix (ve_ix (ve_name 0) (ve_int)) (ve_int)) (va_cons (ve_ix (ve_ix (ve_name 0) (ve_int)) (ve_int)) va_nil))) (va_cons (ve_err E_InUse (hr.mono (by decide)) (va_cons (ve_ix (ve_ix (ve_name 0) (ve_int)) (ve_int)) va_nil)) (va_cons (ve_err E_AttemptFailed (hr.mono (by decide)) (va_cons (ve_ix (ve_ix (ve_name 0) (ve_int)) (ve_int)) va_nil)) va_nil))))))
  (vb_cons (vs_set 1 nd (ve_add (ve_name 1) (ve_lst (va_cons (ve_err0 E_BadLot) (va_cons (ve_err0 E_BadDealing) (va_cons (ve_err0 E_NotCore) (va_cons (ve_err0 E_BadLoads) (va_cons (ve_err0 E_Impossible) (va_cons (ve_err0 E_BadLine) va_nil)))))))))
  (vb_one (vs_ret (ve_add (ve_name 1) (ve_lst (va_cons (ve_err0 E_NothingToUndo) (va_cons (ve_err0 E_NothingToRedo) va_nil)))))))))))
abbrev s_law_same : Stmt := topS 25
theorem sc_law_same : FnScope ["actual", "due", "k"] ["actual", "due"] (defScope s_law_same) := ⟨rfl, rfl, rfl, by decide +kernel, rfl, by decide +kernel, by decide +kernel⟩
def b_law_same (rec : CF) : VS := vSeq (vIfS (tB_ (v1 (gIsN false) (vName 1))) (vRet (v1 (gIsN false) (vName 0))) ((fun e => .nx e)))
  (vSeq (vIfS (tB_ (v1 (gIsB true) (vName 1))) (vRet (v1 (gIsB true) (vName 0))) ((fun e => .nx e)))
  (vSeq (vIfS (tB_ (v1 (gIsB false) (vName 1))) (vRet (v1 (gIsB false) (vName 0))) ((fun e => .nx e)))
  (vSeq (vIfS (tV (v1 (gIsi .int) (vName 1))) (vRet (vAnd (v1 (gIsi .int) (vName 0)) (vAnd (vNot (v1 (gIsi .bool) (vName 0))) (v2 (gEq false) (vName 0) (vName 1))))) ((fun e => .nx e)))
  (vSeq (vIfS (tV (v1 (gIsi .str) (vName 1))) (vRet (vAnd (v1 (gIsi .str) (vName 0)) (v2 (gEq false) (vName 0) (vName 1)))) ((fun e => .nx e)))
  (vSeq (vIfS (tV (v1 (gIsi .tuple) (vName 1))) (vIfS (tOr_ (tNot_ (tV (v1 (gIsi .tuple) (vName 0)))) (tB_ (v2 (gEq true) (vCall (g1 gLen) (vCons (vName 0) (fun _ => some []))) (vCall (g1 gLen) (vCons (vName 1) (fun _ => some [])))))) (vRet (vC (.bl false))) ((fun e => .nx e))) (vIfS (tOr_ (tNot_ (tV (v1 (gIsi .list) (vName 0)))) (tB_ (v2 (gEq true) (vCall (g1 gLen) (vCons (vName 0) (fun _ => some []))) (vCall (g1 gLen) (vCons (vName 1) (fun _ => some [])))))) (vRet (vC (.bl false))) ((fun e => .nx e))))
  (vSeq (vFor (iRange1 (vCons (vCall (g1 gLen) (vCons (vName 1) (fun _ => some []))) (fun _ => some []))) (gN 2) (vIfS (tNot_ (tV (vCallF rec (vCons (v2 gIx (vName 0) (vName 2)) (vCons (v2 gIx (vName 1) (vName 2)) (fun _ => some [])))))) (vRet (vC (.bl false))) ((fun e => .nx e))))
  (vRet (vC (.bl true)))))))))
def c_law_same : Nat → CF
  | 0 => fun _ => .no
  | n + 1 => vDef 3 (b_law_same (c_law_same n))
set_option maxHeartbeats 4000000 in
theorem st_law_same {P : Program} {w : World} {K : PySem.W.Frag} {mg : Str → Option Value} {base : Heap} {Cl : ClsT} {f : Addr} {fd : FuncData} {k : Nat} {rec : CF} (F : Fun K "_law_same" "_law_same" s_law_same f fd) (B_bool : mg "bool" = none) (B_int : mg "int" = none) (B_isinstance : mg "isinstance" = none) (B_len : mg "len" = none) (B_list : mg "list" = none) (B_range : mg "range" = none) (B_str : mg "str" = none) (B_tuple : mg "tuple" = none) (H_rec : FnH P w K mg base Cl k 2 "_law_same" ["actual", "due"] rec) : FnOk P w K mg base (L2.CX P w) (k + 1) f fd ["actual", "due"] (spV K Cl 2 (vDef 3 (b_law_same rec))) := by
  refine fn_v F sc_law_same rfl (fun cdv A outer s H E hr => ?_)
  have nd := sc_law_same.nd
  have hp : PassesOwn (model P w) (bodyCx P w K mg base ["actual", "due", "k"] "_law_same" s_law_same f cdv A outer s H E).A (bodyCx P w K mg base ["actual", "due", "k"] "_law_same" s_law_same f cdv A outer s H E).env (bodyCx P w K mg base ["actual", "due", "k"] "_law_same" s_law_same f cdv A outer s H E).xe := passes_of rfl
  have hu := hr.units
  have hu5 := room65 hr
  exact (vb_cons (vs_if (vt_isN (ve_name 1)) (vb_one (vs_ret (ve_isN (ve_name 0)))) (vb_nil))
  (vb_cons (vs_if (vt_isB (ve_name 1)) (vb_one (vs_ret (ve_isB (ve_name 0)))) (vb_nil))
  (vb_cons (vs_if (vt_isB (ve_name 1)) (vb_one (vs_ret (ve_isB (ve_name 0)))) (vb_nil))
  (vb_cons (vs_if (vt_val (ve_isi .int B_isinstance B_int (ve_name 1))) (vb_one (vs_ret (ve_and (ve_isi .int B_isinstance B_int (ve_name 0)) (ve_and (ve_not (ve_isi .bool B_isinstance B_bool (ve_name 0))) (ve_one (ve_eq hu (ve_name 0) (ve_name 1))))))) (vb_nil))
  (vb_cons (vs_if (vt_val (ve_isi .str B_isinstance B_str (ve_name 1))) (vb_one (vs_ret (ve_and (ve_isi .str B_isinstance B_str (ve_name 0)) (ve_one (ve_eq hu (ve_name 0) (ve_name 1)))))) (vb_nil))
  (vb_cons (vs_if (vt_val (ve_isi .tuple B_isinstance B_tuple (ve_name 1))) (vb_one (vs_if (vt_w (vw_or (vt_not (vt_val (ve_isi .tuple B_isinstance B_tuple (ve_name 0)))) (vw_or1 (vt_ne hu (ve_len B_len (va_cons (ve_name 0) va_nil)) (ve_len B_len (va_cons (ve_name 1) va_nil)))))) (vb_one (vs_ret (ve_bl))) (vb_nil))) (vb_one (vs_if (vt_w (vw_or (vt_not (vt_val (ve_isi .list B_isinstance B_list (ve_name 0)))) (vw_or1 (vt_ne hu (ve_len B_len (va_cons (ve_name 0) va_nil)) (ve_len B_len (va_cons (ve_name 1) va_nil)))))) (vb_one (vs_ret (ve_bl))) (vb_nil))))
  (vb_cons (vs_for hp rfl (vi_range1 B_range (va_cons (ve_len B_len (va_cons (ve_name 1) va_nil)) va_nil)) (vg_name 2 nd) (vb_one (vs_if (vt_not (vt_val (ve_callH H_rec hr rfl (va_cons (ve_ix (ve_name 0) (ve_name 2)) (va_cons (ve_ix (ve_name 1) (ve_name 2)) va_nil)) (len_cons (len_cons len_nil))))) (vb_one (vs_ret (ve_bl))) (vb_nil))))
  (vb_one (vs_ret (ve_bl))))))))))
theorem ok_law_same {P : Program} {w : World} {K : PySem.W.Frag} {mg : Str → Option Value} {base : Heap} {Cl : ClsT} {f : Addr} {fd : FuncData} (F : Fun K "_law_same" "_law_same" s_law_same f fd) (B_bool : mg "bool" = none) (B_int : mg "int" = none) (B_isinstance : mg "isinstance" = none) (B_len : mg "len" = none) (B_list : mg "list" = none) (B_range : mg "range" = none) (B_str : mg "str" = none) (B_tuple : mg "tuple" = none) (am : mg "_law_same" = some (.ref f)) (bb : Binds K fd ["actual", "due"] []) : ∀ k, FnOk P w K mg base (L2.CX P w) k f fd ["actual", "due"] (spV K Cl 2 (c_law_same k))
  | 0 => fn_zero rfl fun _ => rfl
  | k + 1 => st_law_same F B_bool B_int B_isinstance B_len B_list B_range B_str B_tuple (fnH_mk am F.kp bb (ok_law_same F B_bool B_int B_isinstance B_len B_list B_range B_str B_tuple am bb k))
abbrev s_law_read : Stmt := topS 30
theorem sc_law_read : FnScope ["found", "rows"] ["found"] (defScope s_law_read) := ⟨rfl, rfl, rfl, by decide +kernel, rfl, by decide +kernel, by decide +kernel⟩
def b_law_read : VS := vSeq (vSet 1 (vLst (vCons (vTup (vCons (vXf [1, 3] "place" (v2 gIx (vName 0) (vC (.int 0)))) (vCons (vXf [1, 3, 4, 8, 12] "index" (v2 gIx (vName 0) (vC (.int 0)))) (fun _ => some [])))) (vCons (vTup (vCons (vXf [2, 10] "line" (v2 gIx (vName 0) (vC (.int 1)))) (fun _ => some []))) (vCons (vTup (vCons (vXf [1, 3] "place" (v2 gIx (vName 0) (vC (.int 2)))) (vCons (vXf [1, 3, 4, 8, 12] "index" (v2 gIx (vName 0) (vC (.int 2)))) (fun _ => some [])))) (fun _ => some []))))))
  (vSeq (vSet 1 (v2 gAdd (vName 1) (vLst (vCons (vTup (vCons (vXf [1, 3, 4, 8, 12] "index" (v2 gIx (vName 0) (vC (.int 3)))) (vCons (vXf [4] "reason" (v2 gIx (vName 0) (vC (.int 3)))) (fun _ => some [])))) (vCons (vTup (vCons (vXf [5, 7, 11] "what" (v2 gIx (vName 0) (vC (.int 4)))) (fun _ => some []))) (vCons (vTup (vCons (vXf [6] "needed" (v2 gIx (vName 0) (vC (.int 5)))) (fun _ => some []))) (vCons (vTup (vCons (vXf [5, 7, 11] "what" (v2 gIx (vName 0) (vC (.int 6)))) (fun _ => some []))) (fun _ => some []))))))))
  (vSeq (vSet 1 (v2 gAdd (vName 1) (vLst (vCons (vTup (vCons (vXf [1, 3, 4, 8, 12] "index" (v2 gIx (vName 0) (vC (.int 7)))) (fun _ => some []))) (vCons (vTup (vCons (vXf [9] "kind" (v2 gIx (vName 0) (vC (.int 8)))) (fun _ => some []))) (vCons (vTup (vCons (vXf [2, 10] "line" (v2 gIx (vName 0) (vC (.int 9)))) (vCons (vXf [10] "word" (v2 gIx (vName 0) (vC (.int 9)))) (fun _ => some [])))) (vCons (vTup (vCons (vXf [5, 7, 11] "what" (v2 gIx (vName 0) (vC (.int 10)))) (fun _ => some []))) (fun _ => some []))))))))
  (vRet (v2 gAdd (vName 1) (vLst (vCons (vTup (vCons (vXf [1, 3, 4, 8, 12] "index" (v2 gIx (vName 0) (vC (.int 11)))) (fun _ => some []))) (vCons (vTup (fun _ => some [])) (vCons (vTup (fun _ => some [])) (vCons (vTup (fun _ => some [])) (vCons (vTup (fun _ => some [])) (vCons (vTup (fun _ => some [])) (vCons (vTup (fun _ => some [])) (vCons (vTup (fun _ => some [])) (vCons (vTup (fun _ => some [])) (fun _ => some [])))))))))))))))
def c_law_read : CF := vDef 2 b_law_read
set_option maxHeartbeats 4000000 in
theorem ok_law_read {P : Program} {w : World} {K : PySem.W.Frag} {mg : Str → Option Value} {base : Heap} {Cl : ClsT} {f : Addr} {fd : FuncData} (F : Fun K "_law_read" "_law_read" s_law_read f fd) (X_index : ∀ c ∈ [(1 : Nat), (3 : Nat), (4 : Nat), (8 : Nat), (12 : Nat)], ∃ C, Cl c = some C ∧ ExcC K C ∧ PySem.W.findIn K (.ref C) "index" = some none) (X_place : ∀ c ∈ [(1 : Nat), (3 : Nat)], ∃ C, Cl c = some C ∧ ExcC K C ∧ PySem.W.findIn K (.ref C) "place" = some none) (X_line : ∀ c ∈ [(2 : Nat), (10 : Nat)], ∃ C, Cl c = some C ∧ ExcC K C ∧ PySem.W.findIn K (.ref C) "line" = some none) (X_what : ∀ c ∈ [(5 : Nat), (7 : Nat), (11 : Nat)], ∃ C, Cl c = some C ∧ ExcC K C ∧ PySem.W.findIn K (.ref C) "what" = some none) (X_needed : ∀ c ∈ [(6 : Nat)], ∃ C, Cl c = some C ∧ ExcC K C ∧ PySem.W.findIn K (.ref C) "needed" = some none) (X_reason : ∀ c ∈ [(4 : Nat)], ∃ C, Cl c = some C ∧ ExcC K C ∧ PySem.W.findIn K (.ref C) "reason" = some none) (X_word : ∀ c ∈ [(10 : Nat)], ∃ C, Cl c = some C ∧ ExcC K C ∧ PySem.W.findIn K (.ref C) "word" = some none) (X_kind : ∀ c ∈ [(9 : Nat)], ∃ C, Cl c = some C ∧ ExcC K C ∧ PySem.W.findIn K (.ref C) "kind" = some none) : FnOk P w K mg base (L2.CX P w) 1 f fd ["found"] (spV K Cl 1 c_law_read) := by
  refine fn_v F sc_law_read rfl (fun cdv A outer s H E hr => ?_)
  have nd := sc_law_read.nd
  have hp : PassesOwn (model P w) (bodyCx P w K mg base ["found", "rows"] "_law_read" s_law_read f cdv A outer s H E).A (bodyCx P w K mg base ["found", "rows"] "_law_read" s_law_read f cdv A outer s H E).env (bodyCx P w K mg base ["found", "rows"] "_law_read" s_law_read f cdv A outer s H E).xe := passes_of rfl
  have hu := hr.units
  have hu5 := room65 hr
  exact (vb_cons (vs_set 1 nd (ve_lst (va_cons (ve_tup (va_cons (ve_xf X_place (ve_ix (ve_name 0) (ve_int))) (va_cons (ve_xf X_index (ve_ix (ve_name 0) (ve_int))) va_nil))) (va_cons (ve_tup (va_cons (ve_xf X_line (ve_ix (ve_name 0) (ve_int))) va_nil)) (va_cons (ve_tup (va_cons (ve_xf X_place (ve_ix (ve_name 0) (ve_int))) (va_cons (ve_xf X_index (ve_ix (ve_name 0) (ve_int))) va_nil))) va_nil)))))
  (vb_cons (vs_set 1 nd (ve_add (ve_name 1) (ve_lst (va_cons (ve_tup (va_cons (ve_xf X_index (ve_ix (ve_name 0) (ve_int))) (va_cons (ve_xf X_reason (ve_ix (ve_name 0) (ve_int))) va_nil))) (va_cons (ve_tup (va_cons (ve_xf X_what (ve_ix (ve_name 0) (ve_int))) va_nil)) (va_cons (ve_tup (va_cons (ve_xf X_needed (ve_ix (ve_name 0) (ve_int))) va_nil)) (va_cons (ve_tup (va_cons (ve_xf X_what (ve_ix (ve_name 0) (ve_int))) va_nil)) va_nil)))))))
  (vb_cons (vs_set 1 nd (ve_add (ve_name 1) (ve_lst (va_cons (ve_tup (va_cons (ve_xf X_index (ve_ix (ve_name 0) (ve_int))) va_nil)) (va_cons (ve_tup (va_cons (ve_xf X_kind (ve_ix (ve_name 0) (ve_int))) va_nil)) (va_cons (ve_tup (va_cons (ve_xf X_line (ve_ix (ve_name 0) (ve_int))) (va_cons (ve_xf X_word (ve_ix (ve_name 0) (ve_int))) va_nil))) (va_cons (ve_tup (va_cons (ve_xf X_what (ve_ix (ve_name 0) (ve_int))) va_nil)) va_nil)))))))
  (vb_one (vs_ret (ve_add (ve_name 1) (ve_lst (va_cons (ve_tup (va_cons (ve_xf X_index (ve_ix (ve_name 0) (ve_int))) va_nil)) (va_cons (ve_tup va_nil) (va_cons (ve_tup va_nil) (va_cons (ve_tup va_nil) (va_cons (ve_tup va_nil) (va_cons (ve_tup va_nil) (va_cons (ve_tup va_nil) (va_cons (ve_tup va_nil) (va_cons (ve_tup va_nil) va_nil))))))))))))))))
abbrev s_law_classes_of : Stmt := topS 31
theorem sc_law_classes_of : FnScope ["e", "one"] ["e"] (defScope s_law_classes_of) := ⟨rfl, rfl, rfl, by decide +kernel, rfl, by decide +kernel, by decide +kernel⟩
def b_law_classes_of : VS := vSeq (vSet 1 (vLst (vCons (v1 (gIsE row_BadTable) (vName 0)) (vCons (v1 (gIsE row_BadText) (vName 0)) (vCons (v1 (gIsE row_BadStanding) (vName 0)) (vCons (v1 (gIsE row_CannotMove) (vName 0)) (fun _ => some [])))))))
  (vSeq (vSet 1 (v2 gAdd (vName 1) (vLst (vCons (v1 (gIsE row_NoSuch) (vName 0)) (vCons (v1 (gIsE row_WrongGround) (vName 0)) (vCons (v1 (gIsE row_TooGreat) (vName 0)) (vCons (v1 (gIsE row_BadVector) (vName 0)) (fun _ => some []))))))))
  (vSeq (vSet 1 (v2 gAdd (vName 1) (vLst (vCons (v1 (gIsE row_NotLocal) (vName 0)) (vCons (v1 (gIsE row_BadProgram) (vName 0)) (vCons (v1 (gIsE row_InUse) (vName 0)) (fun _ => some [])))))))
  (vSeq (vSet 1 (v2 gAdd (vName 1) (vLst (vCons (v1 (gIsE row_AttemptFailed) (vName 0)) (vCons (v1 (gIsE row_BadLot) (vName 0)) (vCons (v1 (gIsE row_BadDealing) (vName 0)) (fun _ => some [])))))))
  (vSeq (vSet 1 (v2 gAdd (vName 1) (vLst (vCons (v1 (gIsE row_NotCore) (vName 0)) (vCons (v1 (gIsE row_BadLoads) (vName 0)) (vCons (v1 (gIsE row_Impossible) (vName 0)) (vCons (v1 (gIsE row_BadLine) (vName 0)) (fun _ => some []))))))))
  (vRet (v2 gAdd (vName 1) (vLst (vCons (v1 (gIsE row_NothingToUndo) (vName 0)) (vCons (v1 (gIsE row_NothingToRedo) (vName 0)) (fun _ => some []))))))))))
def c_law_classes_of : CF := vDef 2 b_law_classes_of
set_option maxHeartbeats 4000000 in
theorem ok_law_classes_of {P : Program} {w : World} {K : PySem.W.Frag} {mg : Str → Option Value} {base : Heap} {Cl : ClsT} {f : Addr} {fd : FuncData} (F : Fun K "_law_classes_of" "_law_classes_of" s_law_classes_of f fd) (B_isinstance : mg "isinstance" = none) {D_CannotMove : Addr} (G_CannotMove : mg "CannotMove" = some (.ref D_CannotMove)) (R_CannotMove : KitRow K Cl (.ref D_CannotMove) row_CannotMove) {D_BadStanding : Addr} (G_BadStanding : mg "BadStanding" = some (.ref D_BadStanding)) (R_BadStanding : KitRow K Cl (.ref D_BadStanding) row_BadStanding) {D_BadText : Addr} (G_BadText : mg "BadText" = some (.ref D_BadText)) (R_BadText : KitRow K Cl (.ref D_BadText) row_BadText) {D_BadTable : Addr} (G_BadTable : mg "BadTable" = some (.ref D_BadTable)) (R_BadTable : KitRow K Cl (.ref D_BadTable) row_BadTable) {D_BadVector : Addr} (G_BadVector : mg "BadVector" = some (.ref D_BadVector)) (R_BadVector : KitRow K Cl (.ref D_BadVector) row_BadVector) {D_TooGreat : Addr} (G_TooGreat : mg "TooGreat" = some (.ref D_TooGreat)) (R_TooGreat : KitRow K Cl (.ref D_TooGreat) row_TooGreat) {D_WrongGround : Addr} (G_WrongGround : mg "WrongGround" = some (.ref D_WrongGround)) (R_WrongGround : KitRow K Cl (.ref D_WrongGround) row_WrongGround) {D_NoSuch : Addr} (G_NoSuch : mg "NoSuch" = some (.ref D_NoSuch)) (R_NoSuch : KitRow K Cl (.ref D_NoSuch) row_NoSuch) {D_InUse : Addr} (G_InUse : mg "InUse" = some (.ref D_InUse)) (R_InUse : KitRow K Cl (.ref D_InUse) row_InUse) {D_BadProgram : Addr} (G_BadProgram : mg "BadProgram" = some (.ref D_BadProgram)) (R_BadProgram : KitRow K Cl (.ref D_BadProgram) row_BadProgram) {D_NotLocal : Addr} (G_NotLocal : mg "NotLocal" = some (.ref D_NotLocal)) (R_NotLocal : KitRow K Cl (.ref D_NotLocal) row_NotLocal) {D_BadDealing : Addr} (G_BadDealing : mg "BadDealing" = some (.ref D_BadDealing)) (R_BadDealing : KitRow K Cl (.ref D_BadDealing) row_BadDealing) {D_BadLot : Addr} (G_BadLot : mg "BadLot" = some (.ref D_BadLot)) (R_BadLot : KitRow K Cl (.ref D_BadLot) row_BadLot) {D_AttemptFailed : Addr} (G_AttemptFailed : mg "AttemptFailed" = some (.ref D_AttemptFailed)) (R_AttemptFailed : KitRow K Cl (.ref D_AttemptFailed) row_AttemptFailed) {D_BadLine : Addr} (G_BadLine : mg "BadLine" = some (.ref D_BadLine)) (R_BadLine : KitRow K Cl (.ref D_BadLine) row_BadLine) {D_Impossible : Addr} (G_Impossible : mg "Impossible" = some (.ref D_Impossible)) (R_Impossible : KitRow K Cl (.ref D_Impossible) row_Impossible) {D_BadLoads : Addr} (G_BadLoads : mg "BadLoads" = some (.ref D_BadLoads)) (R_BadLoads : KitRow K Cl (.ref D_BadLoads) row_BadLoads) {D_NotCore : Addr} (G_NotCore : mg "NotCore" = some (.ref D_NotCore)) (R_NotCore : KitRow K Cl (.ref D_NotCore) row_NotCore) {D_NothingToRedo : Addr} (G_NothingToRedo : mg "NothingToRedo" = some (.ref D_NothingToRedo)) (R_NothingToRedo : KitRow K Cl (.ref D_NothingToRedo) row_NothingToRedo) {D_NothingToUndo : Addr} (G_NothingToUndo : mg "NothingToUndo" = some (.ref D_NothingToUndo)) (R_NothingToUndo : KitRow K Cl (.ref D_NothingToUndo) row_NothingToUndo) : FnOk P w K mg base (L2.CX P w) 1 f fd ["e"] (spV K Cl 1 c_law_classes_of) := by
  refine fn_v F sc_law_classes_of rfl (fun cdv A outer s H E hr => ?_)
  have nd := sc_law_classes_of.nd
  have hp : PassesOwn (model P w) (bodyCx P w K mg base ["e", "one"] "_law_classes_of" s_law_classes_of f cdv A outer s H E).A (bodyCx P w K mg base ["e", "one"] "_law_classes_of" s_law_classes_of f cdv A outer s H E).env (bodyCx P w K mg base ["e", "one"] "_law_classes_of" s_law_classes_of f cdv A outer s H E).xe := passes_of rfl
  have hu := hr.units
  have hu5 := room65 hr
  exact (vb_cons (vs_set 1 nd (ve_lst (va_cons (ve_isE B_isinstance G_BadTable R_BadTable (ve_name 0)) (va_cons (ve_isE B_isinstance G_BadText R_BadText (ve_name 0)) (va_cons (ve_isE B_isinstance G_BadStanding R_BadStanding (ve_name 0)) (va_cons (ve_isE B_isinstance G_CannotMove R_CannotMove (ve_name 0)) va_nil))))))
  (vb_cons (vs_set 1 nd (ve_add (ve_name 1) (ve_lst (va_cons (ve_isE B_isinstance G_NoSuch R_NoSuch (ve_name 0)) (va_cons (ve_isE B_isinstance G_WrongGround R_WrongGround (ve_name 0)) (va_cons (ve_isE B_isinstance G_TooGreat R_TooGreat (ve_name 0)) (va_cons (ve_isE B_isinstance G_BadVector R_BadVector (ve_name 0)) va_nil)))))))
  (vb_cons (vs_set 1 nd (ve_add (ve_name 1) (ve_lst (va_cons (ve_isE B_isinstance G_NotLocal R_NotLocal (ve_name 0)) (va_cons (ve_isE B_isinstance G_BadProgram R_BadProgram (ve_name 0)) (va_cons (ve_isE B_isinstance G_InUse R_InUse (ve_name 0)) va_nil))))))
  (vb_cons (vs_set 1 nd (ve_add (ve_name 1) (ve_lst (va_cons (ve_isE B_isinstance G_AttemptFailed R_AttemptFailed (ve_name 0)) (va_cons (ve_isE B_isinstance G_BadLot R_BadLot (ve_name 0)) (va_cons (ve_isE B_isinstance G_BadDealing R_BadDealing (ve_name 0)) va_nil))))))
  (vb_cons (vs_set 1 nd (ve_add (ve_name 1) (ve_lst (va_cons (ve_isE B_isinstance G_NotCore R_NotCore (ve_name 0)) (va_cons (ve_isE B_isinstance G_BadLoads R_BadLoads (ve_name 0)) (va_cons (ve_isE B_isinstance G_Impossible R_Impossible (ve_name 0)) (va_cons (ve_isE B_isinstance G_BadLine R_BadLine (ve_name 0)) va_nil)))))))
  (vb_one (vs_ret (ve_add (ve_name 1) (ve_lst (va_cons (ve_isE B_isinstance G_NothingToUndo R_NothingToUndo (ve_name 0)) (va_cons (ve_isE B_isinstance G_NothingToRedo R_NothingToRedo (ve_name 0)) va_nil)))))))))))
abbrev s_law_right : Stmt := topS 32
theorem sc_law_right : FnScope ["found", "rows", "k", "j"] ["found", "rows"] (defScope s_law_right) := ⟨rfl, rfl, rfl, by decide +kernel, rfl, by decide +kernel, by decide +kernel⟩
def b_law_right : VS := vSeq (vIfS (tNot_ (tV (vCallF (c_law_same 8) (vCons (vCallF c_law_read (vCons (vName 0) (fun _ => some []))) (vCons (vName 1) (fun _ => some [])))))) (vRet (vC (.bl false))) ((fun e => .nx e)))
  (vSeq (vFor (iRange1 (vCons (vC (.int 20)) (fun _ => some []))) (gN 2) (vSeq (vIfS (tOr_ (tNot_ (tV (v1 (gIsE row_FullhandsError) (v2 gIx (vName 0) (vName 2))))) (tNot_ (tV (v1 (gIsE row_ValueError) (v2 gIx (vName 0) (vName 2)))))) (vRet (vC (.bl false))) ((fun e => .nx e)))
  (vIfS (tB_ (v2 (gEq true) (vCallF c_law_classes_of (vCons (v2 gIx (vName 0) (vName 2)) (fun _ => some []))) (vComp (iRange1 (vCons (vC (.int 20)) (fun _ => some []))) [3] (gN 3) (fun _ => some true) (v2 (gEq false) (vName 3) (vName 2))))) (vRet (vC (.bl false))) ((fun e => .nx e)))))
  (vRet (vC (.bl true))))
def c_law_right : CF := vDef 4 b_law_right
set_option maxHeartbeats 4000000 in
theorem ok_law_right {P : Program} {w : World} {K : PySem.W.Frag} {mg : Str → Option Value} {base : Heap} {Cl : ClsT} {f : Addr} {fd : FuncData} (F : Fun K "_law_right" "_law_right" s_law_right f fd) (B_ValueError : mg "ValueError" = none) (B_isinstance : mg "isinstance" = none) (B_range : mg "range" = none) {D_FullhandsError : Addr} (G_FullhandsError : mg "FullhandsError" = some (.ref D_FullhandsError)) (R_FullhandsError : KitRow K Cl (.ref D_FullhandsError) row_FullhandsError) (R_ValueError : KitRow K Cl (.type "ValueError") row_ValueError) (H_law_read : FnH P w K mg base Cl 1 1 "_law_read" ["found"] c_law_read) (H_law_same : FnH P w K mg base Cl 8 2 "_law_same" ["actual", "due"] (c_law_same 8)) (H_law_classes_of : FnH P w K mg base Cl 1 1 "_law_classes_of" ["e"] c_law_classes_of) : FnOk P w K mg base (L2.CX P w) 9 f fd ["found", "rows"] (spV K Cl 2 c_law_right) := by
  refine fn_v F sc_law_right rfl (fun cdv A outer s H E hr => ?_)
  have nd := sc_law_right.nd
  have hp : PassesOwn (model P w) (bodyCx P w K mg base ["found", "rows", "k", "j"] "_law_right" s_law_right f cdv A outer s H E).A (bodyCx P w K mg base ["found", "rows", "k", "j"] "_law_right" s_law_right f cdv A outer s H E).env (bodyCx P w K mg base ["found", "rows", "k", "j"] "_law_right" s_law_right f cdv A outer s H E).xe := passes_of rfl
  have hu := hr.units
  have hu5 := room65 hr
  exact (vb_cons (vs_if (vt_not (vt_val (ve_callH H_law_same (hr.mono (by decide)) rfl (va_cons (ve_callH H_law_read (hr.mono (by decide)) rfl (va_cons (ve_name 0) va_nil) (len_cons len_nil)) (va_cons (ve_name 1) va_nil)) (len_cons (len_cons len_nil))))) (vb_one (vs_ret (ve_bl))) (vb_nil))
  (vb_cons (vs_for hp rfl (vi_range1 B_range (va_cons (ve_int) va_nil)) (vg_name 2 nd) (vb_cons (vs_if (vt_w (vw_or (vt_not (vt_val (ve_isE B_isinstance G_FullhandsError R_FullhandsError (ve_ix (ve_name 0) (ve_name 2))))) (vw_or1 (vt_not (vt_val (ve_isEB B_isinstance B_ValueError R_ValueError (ve_ix (ve_name 0) (ve_name 2)))))))) (vb_one (vs_ret (ve_bl))) (vb_nil))
  (vb_one (vs_if (vt_ne hu (ve_callH H_law_classes_of (hr.mono (by decide)) rfl (va_cons (ve_ix (ve_name 0) (ve_name 2)) va_nil) (len_cons len_nil)) (ve_comp (own := [("j", 3)]) rfl nd (vi_range1 B_range (va_cons (ve_int) va_nil)) (blkOk_by (N := ["found", "rows", "k", "j"]) (sc := defScope s_law_right) (by decide +kernel)) (fun _ _ _ _ _ => vg_name 3 nd) (fun _ _ _ _ _ => vts_nil) (fun _ _ _ _ _ => ve_eq hu (ve_name 3) (ve_name 2)) (by decide))) (vb_one (vs_ret (ve_bl))) (vb_nil)))))
  (vb_one (vs_ret (ve_bl)))))
abbrev s_law : Stmt := topS 33
theorem sc_law : FnScope ["script", "pool", "first_rows", "second_rows", "first", "second"] ["script"] (defScope s_law) := ⟨rfl, rfl, rfl, by decide +kernel, rfl, by decide +kernel, by decide +kernel⟩
def b_law : VS := vSeq (vSet 1 (vCallF c_law_pool (vCons (vName 0) (vCons (vC (.int 60)) (fun _ => some [])))))
  (vSeq (vSet 2 (vCallF c_law_fields_of (vCons (vName 1) (vCons (vC (.int 0)) (fun _ => some [])))))
  (vSeq (vSet 3 (vCallF c_law_fields_of (vCons (vName 1) (vCons (vC (.int 30)) (fun _ => some [])))))
  (vSeq (vSet 4 (vCallF c_law_made (vCons (vName 2) (fun _ => some []))))
  (vSeq (vIfS (tNot_ (tV (vCallF c_law_right (vCons (vName 4) (vCons (vName 2) (fun _ => some [])))))) (vRet (vC (.bl false))) ((fun e => .nx e)))
  (vSeq (vSet 5 (vCallF c_law_made (vCons (vName 3) (fun _ => some []))))
  (vRet (vAnd (vCallF c_law_right (vCons (vName 5) (vCons (vName 3) (fun _ => some [])))) (vCallF c_law_right (vCons (vName 4) (vCons (vName 2) (fun _ => some [])))))))))))
def c_law : CF := vDef 6 b_law
set_option maxHeartbeats 4000000 in
theorem ok_law {P : Program} {w : World} {K : PySem.W.Frag} {mg : Str → Option Value} {base : Heap} {Cl : ClsT} {f : Addr} {fd : FuncData} (F : Fun K "law" "law" s_law f fd) (H_law_pool : FnH P w K mg base Cl 2 2 "_law_pool" ["script", "many"] c_law_pool) (H_law_fields_of : FnH P w K mg base Cl 2 2 "_law_fields_of" ["pool", "start"] c_law_fields_of) (H_law_made : FnH P w K mg base Cl 3 1 "_law_made" ["rows"] c_law_made) (H_law_right : FnH P w K mg base Cl 9 2 "_law_right" ["found", "rows"] c_law_right) : FnOk P w K mg base (L2.CX P w) 10 f fd ["script"] (spV K Cl 1 c_law) := by
  refine fn_v F sc_law rfl (fun cdv A outer s H E hr => ?_)
  have nd := sc_law.nd
  have hp : PassesOwn (model P w) (bodyCx P w K mg base ["script", "pool", "first_rows", "second_rows", "first", "second"] "law" s_law f cdv A outer s H E).A (bodyCx P w K mg base ["script", "pool", "first_rows", "second_rows", "first", "second"] "law" s_law f cdv A outer s H E).env (bodyCx P w K mg base ["script", "pool", "first_rows", "second_rows", "first", "second"] "law" s_law f cdv A outer s H E).xe := passes_of rfl
  have hu := hr.units
  have hu5 := room65 hr
  exact (vb_cons (vs_set 1 nd (ve_callH H_law_pool (hr.mono (by decide)) rfl (va_cons (ve_name 0) (va_cons (ve_int) va_nil)) (len_cons (len_cons len_nil))))
  (vb_cons (vs_set 2 nd (ve_callH H_law_fields_of (hr.mono (by decide)) rfl (va_cons (ve_name 1) (va_cons (ve_int) va_nil)) (len_cons (len_cons len_nil))))
  (vb_cons (vs_set 3 nd (ve_callH H_law_fields_of (hr.mono (by decide)) rfl (va_cons (ve_name 1) (va_cons (ve_int) va_nil)) (len_cons (len_cons len_nil))))
  (vb_cons (vs_set 4 nd (ve_callH H_law_made (hr.mono (by decide)) rfl (va_cons (ve_name 2) va_nil) (len_cons len_nil)))
  (vb_cons (vs_if (vt_not (vt_val (ve_callH H_law_right (hr.mono (by decide)) rfl (va_cons (ve_name 4) (va_cons (ve_name 2) va_nil)) (len_cons (len_cons len_nil))))) (vb_one (vs_ret (ve_bl))) (vb_nil))
  (vb_cons (vs_set 5 nd (ve_callH H_law_made (hr.mono (by decide)) rfl (va_cons (ve_name 3) va_nil) (len_cons len_nil)))
  (vb_one (vs_ret (ve_and (ve_callH H_law_right (hr.mono (by decide)) rfl (va_cons (ve_name 5) (va_cons (ve_name 3) va_nil)) (len_cons (len_cons len_nil))) (ve_one (ve_callH H_law_right (hr.mono (by decide)) rfl (va_cons (ve_name 4) (va_cons (ve_name 2) va_nil)) (len_cons (len_cons len_nil)))))))))))))
abbrev s_init_BadTable : Stmt := inClass (topS 2) 0
theorem sc_init_BadTable : FnScope ["self", "place", "index"] ["self", "place", "index"] (defScope s_init_BadTable) := ⟨rfl, rfl, rfl, by decide +kernel, rfl, by decide +kernel, by decide +kernel⟩
theorem ok_init_BadTable {P : Program} {w : World} {K : PySem.W.Frag} {mg : Str → Option Value} {base : Heap} {C f : Addr} {fd : FuncData} (F : Fun K "__init__" "BadTable.__init__" s_init_BadTable f fd) (T : OexC K C) (no : ∀ f ∈ (["place", "index"] : List Str), PySem.W.findIn K (.ref C) f = some none) : FnOk P w K mg base (L2.CX P w) 1 f fd ["self", "place", "index"] (spI K C ["place", "index"]) :=
  fn_init2 F sc_init_BadTable rfl T (no "place" (by decide)) (no "index" (by decide)) (fun cdv A outer s H E => ps_ost (pe_var (i := 0) rfl (.inl rfl)) (pe_var (i := 1) rfl (.inl rfl))) (fun cdv A outer s H E => ps_ost (pe_var (i := 0) rfl (.inl rfl)) (pe_var (i := 2) rfl (.inl rfl)))
abbrev s_init_BadText : Stmt := inClass (topS 3) 0
theorem sc_init_BadText : FnScope ["self", "line"] ["self", "line"] (defScope s_init_BadText) := ⟨rfl, rfl, rfl, by decide +kernel, rfl, by decide +kernel, by decide +kernel⟩
theorem ok_init_BadText {P : Program} {w : World} {K : PySem.W.Frag} {mg : Str → Option Value} {base : Heap} {C f : Addr} {fd : FuncData} (F : Fun K "__init__" "BadText.__init__" s_init_BadText f fd) (T : OexC K C) (no : ∀ f ∈ (["line"] : List Str), PySem.W.findIn K (.ref C) f = some none) : FnOk P w K mg base (L2.CX P w) 1 f fd ["self", "line"] (spI K C ["line"]) :=
  fn_init1 F sc_init_BadText rfl T (no "line" (by decide)) (fun cdv A outer s H E => ps_ost (pe_var (i := 0) rfl (.inl rfl)) (pe_var (i := 1) rfl (.inl rfl)))
abbrev s_init_BadStanding : Stmt := inClass (topS 4) 0
theorem sc_init_BadStanding : FnScope ["self", "place", "index"] ["self", "place", "index"] (defScope s_init_BadStanding) := ⟨rfl, rfl, rfl, by decide +kernel, rfl, by decide +kernel, by decide +kernel⟩
theorem ok_init_BadStanding {P : Program} {w : World} {K : PySem.W.Frag} {mg : Str → Option Value} {base : Heap} {C f : Addr} {fd : FuncData} (F : Fun K "__init__" "BadStanding.__init__" s_init_BadStanding f fd) (T : OexC K C) (no : ∀ f ∈ (["place", "index"] : List Str), PySem.W.findIn K (.ref C) f = some none) : FnOk P w K mg base (L2.CX P w) 1 f fd ["self", "place", "index"] (spI K C ["place", "index"]) :=
  fn_init2 F sc_init_BadStanding rfl T (no "place" (by decide)) (no "index" (by decide)) (fun cdv A outer s H E => ps_ost (pe_var (i := 0) rfl (.inl rfl)) (pe_var (i := 1) rfl (.inl rfl))) (fun cdv A outer s H E => ps_ost (pe_var (i := 0) rfl (.inl rfl)) (pe_var (i := 2) rfl (.inl rfl)))
abbrev s_init_CannotMove : Stmt := inClass (topS 5) 0
theorem sc_init_CannotMove : FnScope ["self", "index", "reason"] ["self", "index", "reason"] (defScope s_init_CannotMove) := ⟨rfl, rfl, rfl, by decide +kernel, rfl, by decide +kernel, by decide +kernel⟩
theorem ok_init_CannotMove {P : Program} {w : World} {K : PySem.W.Frag} {mg : Str → Option Value} {base : Heap} {C f : Addr} {fd : FuncData} (F : Fun K "__init__" "CannotMove.__init__" s_init_CannotMove f fd) (T : OexC K C) (no : ∀ f ∈ (["index", "reason"] : List Str), PySem.W.findIn K (.ref C) f = some none) : FnOk P w K mg base (L2.CX P w) 1 f fd ["self", "index", "reason"] (spI K C ["index", "reason"]) :=
  fn_init2 F sc_init_CannotMove rfl T (no "index" (by decide)) (no "reason" (by decide)) (fun cdv A outer s H E => ps_ost (pe_var (i := 0) rfl (.inl rfl)) (pe_var (i := 1) rfl (.inl rfl))) (fun cdv A outer s H E => ps_ost (pe_var (i := 0) rfl (.inl rfl)) (pe_var (i := 2) rfl (.inl rfl)))
abbrev s_init_NoSuch : Stmt := inClass (topS 6) 0
theorem sc_init_NoSuch : FnScope ["self", "what"] ["self", "what"] (defScope s_init_NoSuch) := ⟨rfl, rfl, rfl, by decide +kernel, rfl, by decide +kernel, by decide +kernel⟩
theorem ok_init_NoSuch {P : Program} {w : World} {K : PySem.W.Frag} {mg : Str → Option Value} {base : Heap} {C f : Addr} {fd : FuncData} (F : Fun K "__init__" "NoSuch.__init__" s_init_NoSuch f fd) (T : OexC K C) (no : ∀ f ∈ (["what"] : List Str), PySem.W.findIn K (.ref C) f = some none) : FnOk P w K mg base (L2.CX P w) 1 f fd ["self", "what"] (spI K C ["what"]) :=
  fn_init1 F sc_init_NoSuch rfl T (no "what" (by decide)) (fun cdv A outer s H E => ps_ost (pe_var (i := 0) rfl (.inl rfl)) (pe_var (i := 1) rfl (.inl rfl)))
abbrev s_init_WrongGround : Stmt := inClass (topS 7) 0
theorem sc_init_WrongGround : FnScope ["self", "needed"] ["self", "needed"] (defScope s_init_WrongGround) := ⟨rfl, rfl, rfl, by decide +kernel, rfl, by decide +kernel, by decide +kernel⟩
theorem ok_init_WrongGround {P : Program} {w : World} {K : PySem.W.Frag} {mg : Str → Option Value} {base : Heap} {C f : Addr} {fd : FuncData} (F : Fun K "__init__" "WrongGround.__init__" s_init_WrongGround f fd) (T : OexC K C) (no : ∀ f ∈ (["needed"] : List Str), PySem.W.findIn K (.ref C) f = some none) : FnOk P w K mg base (L2.CX P w) 1 f fd ["self", "needed"] (spI K C ["needed"]) :=
  fn_init1 F sc_init_WrongGround rfl T (no "needed" (by decide)) (fun cdv A outer s H E => ps_ost (pe_var (i := 0) rfl (.inl rfl)) (pe_var (i := 1) rfl (.inl rfl)))
abbrev s_init_TooGreat : Stmt := inClass (topS 8) 0
theorem sc_init_TooGreat : FnScope ["self", "what"] ["self", "what"] (defScope s_init_TooGreat) := ⟨rfl, rfl, rfl, by decide +kernel, rfl, by decide +kernel, by decide +kernel⟩
theorem ok_init_TooGreat {P : Program} {w : World} {K : PySem.W.Frag} {mg : Str → Option Value} {base : Heap} {C f : Addr} {fd : FuncData} (F : Fun K "__init__" "TooGreat.__init__" s_init_TooGreat f fd) (T : OexC K C) (no : ∀ f ∈ (["what"] : List Str), PySem.W.findIn K (.ref C) f = some none) : FnOk P w K mg base (L2.CX P w) 1 f fd ["self", "what"] (spI K C ["what"]) :=
  fn_init1 F sc_init_TooGreat rfl T (no "what" (by decide)) (fun cdv A outer s H E => ps_ost (pe_var (i := 0) rfl (.inl rfl)) (pe_var (i := 1) rfl (.inl rfl)))
abbrev s_init_BadVector : Stmt := inClass (topS 9) 0
theorem sc_init_BadVector : FnScope ["self", "index"] ["self", "index"] (defScope s_init_BadVector) := ⟨rfl, rfl, rfl, by decide +kernel, rfl, by decide +kernel, by decide +kernel⟩
theorem ok_init_BadVector {P : Program} {w : World} {K : PySem.W.Frag} {mg : Str → Option Value} {base : Heap} {C f : Addr} {fd : FuncData} (F : Fun K "__init__" "BadVector.__init__" s_init_BadVector f fd) (T : OexC K C) (no : ∀ f ∈ (["index"] : List Str), PySem.W.findIn K (.ref C) f = some none) : FnOk P w K mg base (L2.CX P w) 1 f fd ["self", "index"] (spI K C ["index"]) :=
  fn_init1 F sc_init_BadVector rfl T (no "index" (by decide)) (fun cdv A outer s H E => ps_ost (pe_var (i := 0) rfl (.inl rfl)) (pe_var (i := 1) rfl (.inl rfl)))
abbrev s_init_NotLocal : Stmt := inClass (topS 10) 0
theorem sc_init_NotLocal : FnScope ["self", "kind"] ["self", "kind"] (defScope s_init_NotLocal) := ⟨rfl, rfl, rfl, by decide +kernel, rfl, by decide +kernel, by decide +kernel⟩
theorem ok_init_NotLocal {P : Program} {w : World} {K : PySem.W.Frag} {mg : Str → Option Value} {base : Heap} {C f : Addr} {fd : FuncData} (F : Fun K "__init__" "NotLocal.__init__" s_init_NotLocal f fd) (T : OexC K C) (no : ∀ f ∈ (["kind"] : List Str), PySem.W.findIn K (.ref C) f = some none) : FnOk P w K mg base (L2.CX P w) 1 f fd ["self", "kind"] (spI K C ["kind"]) :=
  fn_init1 F sc_init_NotLocal rfl T (no "kind" (by decide)) (fun cdv A outer s H E => ps_ost (pe_var (i := 0) rfl (.inl rfl)) (pe_var (i := 1) rfl (.inl rfl)))
abbrev s_init_BadProgram : Stmt := inClass (topS 11) 0
theorem sc_init_BadProgram : FnScope ["self", "line", "word"] ["self", "line", "word"] (defScope s_init_BadProgram) := ⟨rfl, rfl, rfl, by decide +kernel, rfl, by decide +kernel, by decide +kernel⟩
theorem ok_init_BadProgram {P : Program} {w : World} {K : PySem.W.Frag} {mg : Str → Option Value} {base : Heap} {C f : Addr} {fd : FuncData} (F : Fun K "__init__" "BadProgram.__init__" s_init_BadProgram f fd) (T : OexC K C) (no : ∀ f ∈ (["line", "word"] : List Str), PySem.W.findIn K (.ref C) f = some none) : FnOk P w K mg base (L2.CX P w) 1 f fd ["self", "line", "word"] (spI K C ["line", "word"]) :=
  fn_init2 F sc_init_BadProgram rfl T (no "line" (by decide)) (no "word" (by decide)) (fun cdv A outer s H E => ps_ost (pe_var (i := 0) rfl (.inl rfl)) (pe_var (i := 1) rfl (.inl rfl))) (fun cdv A outer s H E => ps_ost (pe_var (i := 0) rfl (.inl rfl)) (pe_var (i := 2) rfl (.inl rfl)))
abbrev s_init_InUse : Stmt := inClass (topS 12) 0
theorem sc_init_InUse : FnScope ["self", "what"] ["self", "what"] (defScope s_init_InUse) := ⟨rfl, rfl, rfl, by decide +kernel, rfl, by decide +kernel, by decide +kernel⟩
theorem ok_init_InUse {P : Program} {w : World} {K : PySem.W.Frag} {mg : Str → Option Value} {base : Heap} {C f : Addr} {fd : FuncData} (F : Fun K "__init__" "InUse.__init__" s_init_InUse f fd) (T : OexC K C) (no : ∀ f ∈ (["what"] : List Str), PySem.W.findIn K (.ref C) f = some none) : FnOk P w K mg base (L2.CX P w) 1 f fd ["self", "what"] (spI K C ["what"]) :=
  fn_init1 F sc_init_InUse rfl T (no "what" (by decide)) (fun cdv A outer s H E => ps_ost (pe_var (i := 0) rfl (.inl rfl)) (pe_var (i := 1) rfl (.inl rfl)))
abbrev s_init_AttemptFailed : Stmt := inClass (topS 13) 0
theorem sc_init_AttemptFailed : FnScope ["self", "index"] ["self", "index"] (defScope s_init_AttemptFailed) := ⟨rfl, rfl, rfl, by decide +kernel, rfl, by decide +kernel, by decide +kernel⟩
theorem ok_init_AttemptFailed {P : Program} {w : World} {K : PySem.W.Frag} {mg : Str → Option Value} {base : Heap} {C f : Addr} {fd : FuncData} (F : Fun K "__init__" "AttemptFailed.__init__" s_init_AttemptFailed f fd) (T : OexC K C) (no : ∀ f ∈ (["index"] : List Str), PySem.W.findIn K (.ref C) f = some none) : FnOk P w K mg base (L2.CX P w) 1 f fd ["self", "index"] (spI K C ["index"]) :=
  fn_init1 F sc_init_AttemptFailed rfl T (no "index" (by decide)) (fun cdv A outer s H E => ps_ost (pe_var (i := 0) rfl (.inl rfl)) (pe_var (i := 1) rfl (.inl rfl)))
theorem all_mk {P : Program} {w : World} {K : PySem.W.Frag} {h : Heap} {mg : Str → Option Value} {fa : Addr} {C_FullhandsError C_BadTable C_BadText C_BadStanding C_CannotMove C_NoSuch C_WrongGround C_TooGreat C_BadVector C_NotLocal C_BadProgram C_InUse C_AttemptFailed C_BadLot C_BadDealing C_NotCore C_BadLoads C_Impossible C_BadLine C_NothingToUndo C_NothingToRedo : Addr} {fi_BadTable : Addr} {od_init_BadTable an_init_BadTable : Option Addr} {sl_init_BadTable : Array (Option Value)} {oc_init_BadTable kV_init_BadTable dc_init_BadTable pm_init_BadTable cd_init_BadTable ct_init_BadTable : Value} {fi_BadText : Addr} {od_init_BadText an_init_BadText : Option Addr} {sl_init_BadText : Array (Option Value)} {oc_init_BadText kV_init_BadText dc_init_BadText pm_init_BadText cd_init_BadText ct_init_BadText : Value} {fi_BadStanding : Addr} {od_init_BadStanding an_init_BadStanding : Option Addr} {sl_init_BadStanding : Array (Option Value)} {oc_init_BadStanding kV_init_BadStanding dc_init_BadStanding pm_init_BadStanding cd_init_BadStanding ct_init_BadStanding : Value} {fi_CannotMove : Addr} {od_init_CannotMove an_init_CannotMove : Option Addr} {sl_init_CannotMove : Array (Option Value)} {oc_init_CannotMove kV_init_CannotMove dc_init_CannotMove pm_init_CannotMove cd_init_CannotMove ct_init_CannotMove : Value} {fi_NoSuch : Addr} {od_init_NoSuch an_init_NoSuch : Option Addr} {sl_init_NoSuch : Array (Option Value)} {oc_init_NoSuch kV_init_NoSuch dc_init_NoSuch pm_init_NoSuch cd_init_NoSuch ct_init_NoSuch : Value} {fi_WrongGround : Addr} {od_init_WrongGround an_init_WrongGround : Option Addr} {sl_init_WrongGround : Array (Option Value)} {oc_init_WrongGround kV_init_WrongGround dc_init_WrongGround pm_init_WrongGround cd_init_WrongGround ct_init_WrongGround : Value} {fi_TooGreat : Addr} {od_init_TooGreat an_init_TooGreat : Option Addr} {sl_init_TooGreat : Array (Option Value)} {oc_init_TooGreat kV_init_TooGreat dc_init_TooGreat pm_init_TooGreat cd_init_TooGreat ct_init_TooGreat : Value} {fi_BadVector : Addr} {od_init_BadVector an_init_BadVector : Option Addr} {sl_init_BadVector : Array (Option Value)} {oc_init_BadVector kV_init_BadVector dc_init_BadVector pm_init_BadVector cd_init_BadVector ct_init_BadVector : Value} {fi_NotLocal : Addr} {od_init_NotLocal an_init_NotLocal : Option Addr} {sl_init_NotLocal : Array (Option Value)} {oc_init_NotLocal kV_init_NotLocal dc_init_NotLocal pm_init_NotLocal cd_init_NotLocal ct_init_NotLocal : Value} {fi_BadProgram : Addr} {od_init_BadProgram an_init_BadProgram : Option Addr} {sl_init_BadProgram : Array (Option Value)} {oc_init_BadProgram kV_init_BadProgram dc_init_BadProgram pm_init_BadProgram cd_init_BadProgram ct_init_BadProgram : Value} {fi_InUse : Addr} {od_init_InUse an_init_InUse : Option Addr} {sl_init_InUse : Array (Option Value)} {oc_init_InUse kV_init_InUse dc_init_InUse pm_init_InUse cd_init_InUse ct_init_InUse : Value} {fi_AttemptFailed : Addr} {od_init_AttemptFailed an_init_AttemptFailed : Option Addr} {sl_init_AttemptFailed : Array (Option Value)} {oc_init_AttemptFailed kV_init_AttemptFailed dc_init_AttemptFailed pm_init_AttemptFailed cd_init_AttemptFailed ct_init_AttemptFailed : Value} {f_law_mixed : Addr} {od_law_mixed an_law_mixed : Option Addr} {sl_law_mixed : Array (Option Value)} {oc_law_mixed kV_law_mixed dc_law_mixed pm_law_mixed cd_law_mixed ct_law_mixed : Value} {f_law_pool : Addr} {od_law_pool an_law_pool : Option Addr} {sl_law_pool : Array (Option Value)} {oc_law_pool kV_law_pool dc_law_pool pm_law_pool cd_law_pool ct_law_pool : Value} {f_law_word : Addr} {od_law_word an_law_word : Option Addr} {sl_law_word : Array (Option Value)} {oc_law_word kV_law_word dc_law_word pm_law_word cd_law_word ct_law_word : Value} {f_law_number : Addr} {od_law_number an_law_number : Option Addr} {sl_law_number : Array (Option Value)} {oc_law_number kV_law_number dc_law_number pm_law_number cd_law_number ct_law_number : Value} {f_law_fields_of : Addr} {od_law_fields_of an_law_fields_of : Option Addr} {sl_law_fields_of : Array (Option Value)} {oc_law_fields_of kV_law_fields_of dc_law_fields_of pm_law_fields_of cd_law_fields_of ct_law_fields_of : Value} {f_law_made : Addr} {od_law_made an_law_made : Option Addr} {sl_law_made : Array (Option Value)} {oc_law_made kV_law_made dc_law_made pm_law_made cd_law_made ct_law_made : Value} {f_law_same : Addr} {od_law_same an_law_same : Option Addr} {sl_law_same : Array (Option Value)} {oc_law_same kV_law_same dc_law_same pm_law_same cd_law_same ct_law_same : Value} {f_law_read : Addr} {od_law_read an_law_read : Option Addr} {sl_law_read : Array (Option Value)} {oc_law_read kV_law_read dc_law_read pm_law_read cd_law_read ct_law_read : Value} {f_law_classes_of : Addr} {od_law_classes_of an_law_classes_of : Option Addr} {sl_law_classes_of : Array (Option Value)} {oc_law_classes_of kV_law_classes_of dc_law_classes_of pm_law_classes_of cd_law_classes_of ct_law_classes_of : Value} {f_law_right : Addr} {od_law_right an_law_right : Option Addr} {sl_law_right : Array (Option Value)} {oc_law_right kV_law_right dc_law_right pm_law_right cd_law_right ct_law_right : Value} {f_law : Addr} {od_law an_law : Option Addr} {sl_law : Array (Option Value)} {oc_law kV_law dc_law pm_law cd_law ct_law : Value} (X : K.In h) (G : h.Ns mainGlobals mg) (hfa : mg "law" = some (.ref fa))
    (z_ValueError : PySem.W.nsIn K mainGlobals "ValueError" = some none)
    (z_abs : PySem.W.nsIn K mainGlobals "abs" = some none)
    (z_bool : PySem.W.nsIn K mainGlobals "bool" = some none)
    (z_int : PySem.W.nsIn K mainGlobals "int" = some none)
    (z_isinstance : PySem.W.nsIn K mainGlobals "isinstance" = some none)
    (z_len : PySem.W.nsIn K mainGlobals "len" = some none)
    (z_list : PySem.W.nsIn K mainGlobals "list" = some none)
    (z_range : PySem.W.nsIn K mainGlobals "range" = some none)
    (z_str : PySem.W.nsIn K mainGlobals "str" = some none)
    (z_tuple : PySem.W.nsIn K mainGlobals "tuple" = some none)
    (a_FullhandsError : PySem.W.nsIn K mainGlobals "FullhandsError" = some (some (.ref C_FullhandsError)))
    (a_BadTable : PySem.W.nsIn K mainGlobals "BadTable" = some (some (.ref C_BadTable)))
    (a_BadText : PySem.W.nsIn K mainGlobals "BadText" = some (some (.ref C_BadText)))
    (a_BadStanding : PySem.W.nsIn K mainGlobals "BadStanding" = some (some (.ref C_BadStanding)))
    (a_CannotMove : PySem.W.nsIn K mainGlobals "CannotMove" = some (some (.ref C_CannotMove)))
    (a_NoSuch : PySem.W.nsIn K mainGlobals "NoSuch" = some (some (.ref C_NoSuch)))
    (a_WrongGround : PySem.W.nsIn K mainGlobals "WrongGround" = some (some (.ref C_WrongGround)))
    (a_TooGreat : PySem.W.nsIn K mainGlobals "TooGreat" = some (some (.ref C_TooGreat)))
    (a_BadVector : PySem.W.nsIn K mainGlobals "BadVector" = some (some (.ref C_BadVector)))
    (a_NotLocal : PySem.W.nsIn K mainGlobals "NotLocal" = some (some (.ref C_NotLocal)))
    (a_BadProgram : PySem.W.nsIn K mainGlobals "BadProgram" = some (some (.ref C_BadProgram)))
    (a_InUse : PySem.W.nsIn K mainGlobals "InUse" = some (some (.ref C_InUse)))
    (a_AttemptFailed : PySem.W.nsIn K mainGlobals "AttemptFailed" = some (some (.ref C_AttemptFailed)))
    (a_BadLot : PySem.W.nsIn K mainGlobals "BadLot" = some (some (.ref C_BadLot)))
    (a_BadDealing : PySem.W.nsIn K mainGlobals "BadDealing" = some (some (.ref C_BadDealing)))
    (a_NotCore : PySem.W.nsIn K mainGlobals "NotCore" = some (some (.ref C_NotCore)))
    (a_BadLoads : PySem.W.nsIn K mainGlobals "BadLoads" = some (some (.ref C_BadLoads)))
    (a_Impossible : PySem.W.nsIn K mainGlobals "Impossible" = some (some (.ref C_Impossible)))
    (a_BadLine : PySem.W.nsIn K mainGlobals "BadLine" = some (some (.ref C_BadLine)))
    (a_NothingToUndo : PySem.W.nsIn K mainGlobals "NothingToUndo" = some (some (.ref C_NothingToUndo)))
    (a_NothingToRedo : PySem.W.nsIn K mainGlobals "NothingToRedo" = some (some (.ref C_NothingToRedo)))
    (o_BadTable : oexB K C_BadTable = true)
    (n_BadTable : noAttB K C_BadTable ["place", "index"] = true)
    (i_BadTable : PySem.W.findIn K (.ref C_BadTable) "__init__" = some (some (.ref fi_BadTable)))
    (t_BadTable : PySem.W.typeIn K (.ref fi_BadTable) = some (.type "function"))
    (l_init_BadTable : K.lookup fi_BadTable = some ⟨oc_init_BadTable, od_init_BadTable, .func (PySem.W.fnOf "__init__" "BadTable.__init__" (defArgs s_init_BadTable) (defBody s_init_BadTable) (defScope s_init_BadTable) .none kV_init_BadTable dc_init_BadTable pm_init_BadTable an_init_BadTable cd_init_BadTable ct_init_BadTable), sl_init_BadTable⟩)
    (cc_init_BadTable : PySem.W.codeIn K cd_init_BadTable "BadTable.__init__" = true)
    (k_init_BadTable : PySem.W.keepIn K (.ref fi_BadTable) = true)
    (o_BadText : oexB K C_BadText = true)
    (n_BadText : noAttB K C_BadText ["line"] = true)
    (i_BadText : PySem.W.findIn K (.ref C_BadText) "__init__" = some (some (.ref fi_BadText)))
    (t_BadText : PySem.W.typeIn K (.ref fi_BadText) = some (.type "function"))
    (l_init_BadText : K.lookup fi_BadText = some ⟨oc_init_BadText, od_init_BadText, .func (PySem.W.fnOf "__init__" "BadText.__init__" (defArgs s_init_BadText) (defBody s_init_BadText) (defScope s_init_BadText) .none kV_init_BadText dc_init_BadText pm_init_BadText an_init_BadText cd_init_BadText ct_init_BadText), sl_init_BadText⟩)
    (cc_init_BadText : PySem.W.codeIn K cd_init_BadText "BadText.__init__" = true)
    (k_init_BadText : PySem.W.keepIn K (.ref fi_BadText) = true)
    (o_BadStanding : oexB K C_BadStanding = true)
    (n_BadStanding : noAttB K C_BadStanding ["place", "index"] = true)
    (i_BadStanding : PySem.W.findIn K (.ref C_BadStanding) "__init__" = some (some (.ref fi_BadStanding)))
    (t_BadStanding : PySem.W.typeIn K (.ref fi_BadStanding) = some (.type "function"))
    (l_init_BadStanding : K.lookup fi_BadStanding = some ⟨oc_init_BadStanding, od_init_BadStanding, .func (PySem.W.fnOf "__init__" "BadStanding.__init__" (defArgs s_init_BadStanding) (defBody s_init_BadStanding) (defScope s_init_BadStanding) .none kV_init_BadStanding dc_init_BadStanding pm_init_BadStanding an_init_BadStanding cd_init_BadStanding ct_init_BadStanding), sl_init_BadStanding⟩)
    (cc_init_BadStanding : PySem.W.codeIn K cd_init_BadStanding "BadStanding.__init__" = true)
    (k_init_BadStanding : PySem.W.keepIn K (.ref fi_BadStanding) = true)
    (o_CannotMove : oexB K C_CannotMove = true)
    (n_CannotMove : noAttB K C_CannotMove ["index", "reason"] = true)
    (i_CannotMove : PySem.W.findIn K (.ref C_CannotMove) "__init__" = some (some (.ref fi_CannotMove)))
    (t_CannotMove : PySem.W.typeIn K (.ref fi_CannotMove) = some (.type "function"))
    (l_init_CannotMove : K.lookup fi_CannotMove = some ⟨oc_init_CannotMove, od_init_CannotMove, .func (PySem.W.fnOf "__init__" "CannotMove.__init__" (defArgs s_init_CannotMove) (defBody s_init_CannotMove) (defScope s_init_CannotMove) .none kV_init_CannotMove dc_init_CannotMove pm_init_CannotMove an_init_CannotMove cd_init_CannotMove ct_init_CannotMove), sl_init_CannotMove⟩)
    (cc_init_CannotMove : PySem.W.codeIn K cd_init_CannotMove "CannotMove.__init__" = true)
    (k_init_CannotMove : PySem.W.keepIn K (.ref fi_CannotMove) = true)
    (o_NoSuch : oexB K C_NoSuch = true)
    (n_NoSuch : noAttB K C_NoSuch ["what"] = true)
    (i_NoSuch : PySem.W.findIn K (.ref C_NoSuch) "__init__" = some (some (.ref fi_NoSuch)))
    (t_NoSuch : PySem.W.typeIn K (.ref fi_NoSuch) = some (.type "function"))
    (l_init_NoSuch : K.lookup fi_NoSuch = some ⟨oc_init_NoSuch, od_init_NoSuch, .func (PySem.W.fnOf "__init__" "NoSuch.__init__" (defArgs s_init_NoSuch) (defBody s_init_NoSuch) (defScope s_init_NoSuch) .none kV_init_NoSuch dc_init_NoSuch pm_init_NoSuch an_init_NoSuch cd_init_NoSuch ct_init_NoSuch), sl_init_NoSuch⟩)
    (cc_init_NoSuch : PySem.W.codeIn K cd_init_NoSuch "NoSuch.__init__" = true)
    (k_init_NoSuch : PySem.W.keepIn K (.ref fi_NoSuch) = true)
    (o_WrongGround : oexB K C_WrongGround = true)
    (n_WrongGround : noAttB K C_WrongGround ["needed"] = true)
    (i_WrongGround : PySem.W.findIn K (.ref C_WrongGround) "__init__" = some (some (.ref fi_WrongGround)))
    (t_WrongGround : PySem.W.typeIn K (.ref fi_WrongGround) = some (.type "function"))
    (l_init_WrongGround : K.lookup fi_WrongGround = some ⟨oc_init_WrongGround, od_init_WrongGround, .func (PySem.W.fnOf "__init__" "WrongGround.__init__" (defArgs s_init_WrongGround) (defBody s_init_WrongGround) (defScope s_init_WrongGround) .none kV_init_WrongGround dc_init_WrongGround pm_init_WrongGround an_init_WrongGround cd_init_WrongGround ct_init_WrongGround), sl_init_WrongGround⟩)
    (cc_init_WrongGround : PySem.W.codeIn K cd_init_WrongGround "WrongGround.__init__" = true)
    (k_init_WrongGround : PySem.W.keepIn K (.ref fi_WrongGround) = true)
    (o_TooGreat : oexB K C_TooGreat = true)
    (n_TooGreat : noAttB K C_TooGreat ["what"] = true)
    (i_TooGreat : PySem.W.findIn K (.ref C_TooGreat) "__init__" = some (some (.ref fi_TooGreat)))
    (t_TooGreat : PySem.W.typeIn K (.ref fi_TooGreat) = some (.type "function"))
    (l_init_TooGreat : K.lookup fi_TooGreat = some ⟨oc_init_TooGreat, od_init_TooGreat, .func (PySem.W.fnOf "__init__" "TooGreat.__init__" (defArgs s_init_TooGreat) (defBody s_init_TooGreat) (defScope s_init_TooGreat) .none kV_init_TooGreat dc_init_TooGreat pm_init_TooGreat an_init_TooGreat cd_init_TooGreat ct_init_TooGreat), sl_init_TooGreat⟩)
    (cc_init_TooGreat : PySem.W.codeIn K cd_init_TooGreat "TooGreat.__init__" = true)
    (k_init_TooGreat : PySem.W.keepIn K (.ref fi_TooGreat) = true)
    (o_BadVector : oexB K C_BadVector = true)
    (n_BadVector : noAttB K C_BadVector ["index"] = true)
    (i_BadVector : PySem.W.findIn K (.ref C_BadVector) "__init__" = some (some (.ref fi_BadVector)))
    (t_BadVector : PySem.W.typeIn K (.ref fi_BadVector) = some (.type "function"))
    (l_init_BadVector : K.lookup fi_BadVector = some ⟨oc_init_BadVector, od_init_BadVector, .func (PySem.W.fnOf "__init__" "BadVector.__init__" (defArgs s_init_BadVector) (defBody s_init_BadVector) (defScope s_init_BadVector) .none kV_init_BadVector dc_init_BadVector pm_init_BadVector an_init_BadVector cd_init_BadVector ct_init_BadVector), sl_init_BadVector⟩)
    (cc_init_BadVector : PySem.W.codeIn K cd_init_BadVector "BadVector.__init__" = true)
    (k_init_BadVector : PySem.W.keepIn K (.ref fi_BadVector) = true)
    (o_NotLocal : oexB K C_NotLocal = true)
    (n_NotLocal : noAttB K C_NotLocal ["kind"] = true)
    (i_NotLocal : PySem.W.findIn K (.ref C_NotLocal) "__init__" = some (some (.ref fi_NotLocal)))
    (t_NotLocal : PySem.W.typeIn K (.ref fi_NotLocal) = some (.type "function"))
    (l_init_NotLocal : K.lookup fi_NotLocal = some ⟨oc_init_NotLocal, od_init_NotLocal, .func (PySem.W.fnOf "__init__" "NotLocal.__init__" (defArgs s_init_NotLocal) (defBody s_init_NotLocal) (defScope s_init_NotLocal) .none kV_init_NotLocal dc_init_NotLocal pm_init_NotLocal an_init_NotLocal cd_init_NotLocal ct_init_NotLocal), sl_init_NotLocal⟩)
    (cc_init_NotLocal : PySem.W.codeIn K cd_init_NotLocal "NotLocal.__init__" = true)
    (k_init_NotLocal : PySem.W.keepIn K (.ref fi_NotLocal) = true)
    (o_BadProgram : oexB K C_BadProgram = true)
    (n_BadProgram : noAttB K C_BadProgram ["line", "word"] = true)
    (i_BadProgram : PySem.W.findIn K (.ref C_BadProgram) "__init__" = some (some (.ref fi_BadProgram)))
    (t_BadProgram : PySem.W.typeIn K (.ref fi_BadProgram) = some (.type "function"))
    (l_init_BadProgram : K.lookup fi_BadProgram = some ⟨oc_init_BadProgram, od_init_BadProgram, .func (PySem.W.fnOf "__init__" "BadProgram.__init__" (defArgs s_init_BadProgram) (defBody s_init_BadProgram) (defScope s_init_BadProgram) .none kV_init_BadProgram dc_init_BadProgram pm_init_BadProgram an_init_BadProgram cd_init_BadProgram ct_init_BadProgram), sl_init_BadProgram⟩)
    (cc_init_BadProgram : PySem.W.codeIn K cd_init_BadProgram "BadProgram.__init__" = true)
    (k_init_BadProgram : PySem.W.keepIn K (.ref fi_BadProgram) = true)
    (o_InUse : oexB K C_InUse = true)
    (n_InUse : noAttB K C_InUse ["what"] = true)
    (i_InUse : PySem.W.findIn K (.ref C_InUse) "__init__" = some (some (.ref fi_InUse)))
    (t_InUse : PySem.W.typeIn K (.ref fi_InUse) = some (.type "function"))
    (l_init_InUse : K.lookup fi_InUse = some ⟨oc_init_InUse, od_init_InUse, .func (PySem.W.fnOf "__init__" "InUse.__init__" (defArgs s_init_InUse) (defBody s_init_InUse) (defScope s_init_InUse) .none kV_init_InUse dc_init_InUse pm_init_InUse an_init_InUse cd_init_InUse ct_init_InUse), sl_init_InUse⟩)
    (cc_init_InUse : PySem.W.codeIn K cd_init_InUse "InUse.__init__" = true)
    (k_init_InUse : PySem.W.keepIn K (.ref fi_InUse) = true)
    (o_AttemptFailed : oexB K C_AttemptFailed = true)
    (n_AttemptFailed : noAttB K C_AttemptFailed ["index"] = true)
    (i_AttemptFailed : PySem.W.findIn K (.ref C_AttemptFailed) "__init__" = some (some (.ref fi_AttemptFailed)))
    (t_AttemptFailed : PySem.W.typeIn K (.ref fi_AttemptFailed) = some (.type "function"))
    (l_init_AttemptFailed : K.lookup fi_AttemptFailed = some ⟨oc_init_AttemptFailed, od_init_AttemptFailed, .func (PySem.W.fnOf "__init__" "AttemptFailed.__init__" (defArgs s_init_AttemptFailed) (defBody s_init_AttemptFailed) (defScope s_init_AttemptFailed) .none kV_init_AttemptFailed dc_init_AttemptFailed pm_init_AttemptFailed an_init_AttemptFailed cd_init_AttemptFailed ct_init_AttemptFailed), sl_init_AttemptFailed⟩)
    (cc_init_AttemptFailed : PySem.W.codeIn K cd_init_AttemptFailed "AttemptFailed.__init__" = true)
    (k_init_AttemptFailed : PySem.W.keepIn K (.ref fi_AttemptFailed) = true)
    (k_BadLot : PySem.W.keepIn K (.ref C_BadLot) = true)
    (q_BadLot : PySem.W.excIn K C_BadLot [.type "ValueError", .type "Exception", .type "BaseException", .type "object"] "ValueError.__new__" = true)
    (k_BadDealing : PySem.W.keepIn K (.ref C_BadDealing) = true)
    (q_BadDealing : PySem.W.excIn K C_BadDealing [.type "ValueError", .type "Exception", .type "BaseException", .type "object"] "ValueError.__new__" = true)
    (k_NotCore : PySem.W.keepIn K (.ref C_NotCore) = true)
    (q_NotCore : PySem.W.excIn K C_NotCore [.type "ValueError", .type "Exception", .type "BaseException", .type "object"] "ValueError.__new__" = true)
    (k_BadLoads : PySem.W.keepIn K (.ref C_BadLoads) = true)
    (q_BadLoads : PySem.W.excIn K C_BadLoads [.type "ValueError", .type "Exception", .type "BaseException", .type "object"] "ValueError.__new__" = true)
    (k_Impossible : PySem.W.keepIn K (.ref C_Impossible) = true)
    (q_Impossible : PySem.W.excIn K C_Impossible [.type "ValueError", .type "Exception", .type "BaseException", .type "object"] "ValueError.__new__" = true)
    (k_BadLine : PySem.W.keepIn K (.ref C_BadLine) = true)
    (q_BadLine : PySem.W.excIn K C_BadLine [.type "ValueError", .type "Exception", .type "BaseException", .type "object"] "ValueError.__new__" = true)
    (k_NothingToUndo : PySem.W.keepIn K (.ref C_NothingToUndo) = true)
    (q_NothingToUndo : PySem.W.excIn K C_NothingToUndo [.type "ValueError", .type "Exception", .type "BaseException", .type "object"] "ValueError.__new__" = true)
    (k_NothingToRedo : PySem.W.keepIn K (.ref C_NothingToRedo) = true)
    (q_NothingToRedo : PySem.W.excIn K C_NothingToRedo [.type "ValueError", .type "Exception", .type "BaseException", .type "object"] "ValueError.__new__" = true)
    (r_CannotMove : kitRow K [C_FullhandsError, C_BadTable, C_BadText, C_BadStanding, C_CannotMove, C_NoSuch, C_WrongGround, C_TooGreat, C_BadVector, C_NotLocal, C_BadProgram, C_InUse, C_AttemptFailed, C_BadLot, C_BadDealing, C_NotCore, C_BadLoads, C_Impossible, C_BadLine, C_NothingToUndo, C_NothingToRedo] (.ref C_CannotMove) row_CannotMove = true)
    (r_BadStanding : kitRow K [C_FullhandsError, C_BadTable, C_BadText, C_BadStanding, C_CannotMove, C_NoSuch, C_WrongGround, C_TooGreat, C_BadVector, C_NotLocal, C_BadProgram, C_InUse, C_AttemptFailed, C_BadLot, C_BadDealing, C_NotCore, C_BadLoads, C_Impossible, C_BadLine, C_NothingToUndo, C_NothingToRedo] (.ref C_BadStanding) row_BadStanding = true)
    (r_BadText : kitRow K [C_FullhandsError, C_BadTable, C_BadText, C_BadStanding, C_CannotMove, C_NoSuch, C_WrongGround, C_TooGreat, C_BadVector, C_NotLocal, C_BadProgram, C_InUse, C_AttemptFailed, C_BadLot, C_BadDealing, C_NotCore, C_BadLoads, C_Impossible, C_BadLine, C_NothingToUndo, C_NothingToRedo] (.ref C_BadText) row_BadText = true)
    (r_BadTable : kitRow K [C_FullhandsError, C_BadTable, C_BadText, C_BadStanding, C_CannotMove, C_NoSuch, C_WrongGround, C_TooGreat, C_BadVector, C_NotLocal, C_BadProgram, C_InUse, C_AttemptFailed, C_BadLot, C_BadDealing, C_NotCore, C_BadLoads, C_Impossible, C_BadLine, C_NothingToUndo, C_NothingToRedo] (.ref C_BadTable) row_BadTable = true)
    (r_BadVector : kitRow K [C_FullhandsError, C_BadTable, C_BadText, C_BadStanding, C_CannotMove, C_NoSuch, C_WrongGround, C_TooGreat, C_BadVector, C_NotLocal, C_BadProgram, C_InUse, C_AttemptFailed, C_BadLot, C_BadDealing, C_NotCore, C_BadLoads, C_Impossible, C_BadLine, C_NothingToUndo, C_NothingToRedo] (.ref C_BadVector) row_BadVector = true)
    (r_TooGreat : kitRow K [C_FullhandsError, C_BadTable, C_BadText, C_BadStanding, C_CannotMove, C_NoSuch, C_WrongGround, C_TooGreat, C_BadVector, C_NotLocal, C_BadProgram, C_InUse, C_AttemptFailed, C_BadLot, C_BadDealing, C_NotCore, C_BadLoads, C_Impossible, C_BadLine, C_NothingToUndo, C_NothingToRedo] (.ref C_TooGreat) row_TooGreat = true)
    (r_WrongGround : kitRow K [C_FullhandsError, C_BadTable, C_BadText, C_BadStanding, C_CannotMove, C_NoSuch, C_WrongGround, C_TooGreat, C_BadVector, C_NotLocal, C_BadProgram, C_InUse, C_AttemptFailed, C_BadLot, C_BadDealing, C_NotCore, C_BadLoads, C_Impossible, C_BadLine, C_NothingToUndo, C_NothingToRedo] (.ref C_WrongGround) row_WrongGround = true)
    (r_NoSuch : kitRow K [C_FullhandsError, C_BadTable, C_BadText, C_BadStanding, C_CannotMove, C_NoSuch, C_WrongGround, C_TooGreat, C_BadVector, C_NotLocal, C_BadProgram, C_InUse, C_AttemptFailed, C_BadLot, C_BadDealing, C_NotCore, C_BadLoads, C_Impossible, C_BadLine, C_NothingToUndo, C_NothingToRedo] (.ref C_NoSuch) row_NoSuch = true)
    (r_InUse : kitRow K [C_FullhandsError, C_BadTable, C_BadText, C_BadStanding, C_CannotMove, C_NoSuch, C_WrongGround, C_TooGreat, C_BadVector, C_NotLocal, C_BadProgram, C_InUse, C_AttemptFailed, C_BadLot, C_BadDealing, C_NotCore, C_BadLoads, C_Impossible, C_BadLine, C_NothingToUndo, C_NothingToRedo] (.ref C_InUse) row_InUse = true)
    (r_BadProgram : kitRow K [C_FullhandsError, C_BadTable, C_BadText, C_BadStanding, C_CannotMove, C_NoSuch, C_WrongGround, C_TooGreat, C_BadVector, C_NotLocal, C_BadProgram, C_InUse, C_AttemptFailed, C_BadLot, C_BadDealing, C_NotCore, C_BadLoads, C_Impossible, C_BadLine, C_NothingToUndo, C_NothingToRedo] (.ref C_BadProgram) row_BadProgram = true)
    (r_NotLocal : kitRow K [C_FullhandsError, C_BadTable, C_BadText, C_BadStanding, C_CannotMove, C_NoSuch, C_WrongGround, C_TooGreat, C_BadVector, C_NotLocal, C_BadProgram, C_InUse, C_AttemptFailed, C_BadLot, C_BadDealing, C_NotCore, C_BadLoads, C_Impossible, C_BadLine, C_NothingToUndo, C_NothingToRedo] (.ref C_NotLocal) row_NotLocal = true)
    (r_BadDealing : kitRow K [C_FullhandsError, C_BadTable, C_BadText, C_BadStanding, C_CannotMove, C_NoSuch, C_WrongGround, C_TooGreat, C_BadVector, C_NotLocal, C_BadProgram, C_InUse, C_AttemptFailed, C_BadLot, C_BadDealing, C_NotCore, C_BadLoads, C_Impossible, C_BadLine, C_NothingToUndo, C_NothingToRedo] (.ref C_BadDealing) row_BadDealing = true)
    (r_BadLot : kitRow K [C_FullhandsError, C_BadTable, C_BadText, C_BadStanding, C_CannotMove, C_NoSuch, C_WrongGround, C_TooGreat, C_BadVector, C_NotLocal, C_BadProgram, C_InUse, C_AttemptFailed, C_BadLot, C_BadDealing, C_NotCore, C_BadLoads, C_Impossible, C_BadLine, C_NothingToUndo, C_NothingToRedo] (.ref C_BadLot) row_BadLot = true)
    (r_AttemptFailed : kitRow K [C_FullhandsError, C_BadTable, C_BadText, C_BadStanding, C_CannotMove, C_NoSuch, C_WrongGround, C_TooGreat, C_BadVector, C_NotLocal, C_BadProgram, C_InUse, C_AttemptFailed, C_BadLot, C_BadDealing, C_NotCore, C_BadLoads, C_Impossible, C_BadLine, C_NothingToUndo, C_NothingToRedo] (.ref C_AttemptFailed) row_AttemptFailed = true)
    (r_BadLine : kitRow K [C_FullhandsError, C_BadTable, C_BadText, C_BadStanding, C_CannotMove, C_NoSuch, C_WrongGround, C_TooGreat, C_BadVector, C_NotLocal, C_BadProgram, C_InUse, C_AttemptFailed, C_BadLot, C_BadDealing, C_NotCore, C_BadLoads, C_Impossible, C_BadLine, C_NothingToUndo, C_NothingToRedo] (.ref C_BadLine) row_BadLine = true)
    (r_Impossible : kitRow K [C_FullhandsError, C_BadTable, C_BadText, C_BadStanding, C_CannotMove, C_NoSuch, C_WrongGround, C_TooGreat, C_BadVector, C_NotLocal, C_BadProgram, C_InUse, C_AttemptFailed, C_BadLot, C_BadDealing, C_NotCore, C_BadLoads, C_Impossible, C_BadLine, C_NothingToUndo, C_NothingToRedo] (.ref C_Impossible) row_Impossible = true)
    (r_BadLoads : kitRow K [C_FullhandsError, C_BadTable, C_BadText, C_BadStanding, C_CannotMove, C_NoSuch, C_WrongGround, C_TooGreat, C_BadVector, C_NotLocal, C_BadProgram, C_InUse, C_AttemptFailed, C_BadLot, C_BadDealing, C_NotCore, C_BadLoads, C_Impossible, C_BadLine, C_NothingToUndo, C_NothingToRedo] (.ref C_BadLoads) row_BadLoads = true)
    (r_NotCore : kitRow K [C_FullhandsError, C_BadTable, C_BadText, C_BadStanding, C_CannotMove, C_NoSuch, C_WrongGround, C_TooGreat, C_BadVector, C_NotLocal, C_BadProgram, C_InUse, C_AttemptFailed, C_BadLot, C_BadDealing, C_NotCore, C_BadLoads, C_Impossible, C_BadLine, C_NothingToUndo, C_NothingToRedo] (.ref C_NotCore) row_NotCore = true)
    (r_NothingToRedo : kitRow K [C_FullhandsError, C_BadTable, C_BadText, C_BadStanding, C_CannotMove, C_NoSuch, C_WrongGround, C_TooGreat, C_BadVector, C_NotLocal, C_BadProgram, C_InUse, C_AttemptFailed, C_BadLot, C_BadDealing, C_NotCore, C_BadLoads, C_Impossible, C_BadLine, C_NothingToUndo, C_NothingToRedo] (.ref C_NothingToRedo) row_NothingToRedo = true)
    (r_NothingToUndo : kitRow K [C_FullhandsError, C_BadTable, C_BadText, C_BadStanding, C_CannotMove, C_NoSuch, C_WrongGround, C_TooGreat, C_BadVector, C_NotLocal, C_BadProgram, C_InUse, C_AttemptFailed, C_BadLot, C_BadDealing, C_NotCore, C_BadLoads, C_Impossible, C_BadLine, C_NothingToUndo, C_NothingToRedo] (.ref C_NothingToUndo) row_NothingToUndo = true)
    (r_FullhandsError : kitRow K [C_FullhandsError, C_BadTable, C_BadText, C_BadStanding, C_CannotMove, C_NoSuch, C_WrongGround, C_TooGreat, C_BadVector, C_NotLocal, C_BadProgram, C_InUse, C_AttemptFailed, C_BadLot, C_BadDealing, C_NotCore, C_BadLoads, C_Impossible, C_BadLine, C_NothingToUndo, C_NothingToRedo] (.ref C_FullhandsError) row_FullhandsError = true)
    (r_ValueError : kitRow K [C_FullhandsError, C_BadTable, C_BadText, C_BadStanding, C_CannotMove, C_NoSuch, C_WrongGround, C_TooGreat, C_BadVector, C_NotLocal, C_BadProgram, C_InUse, C_AttemptFailed, C_BadLot, C_BadDealing, C_NotCore, C_BadLoads, C_Impossible, C_BadLine, C_NothingToUndo, C_NothingToRedo] (.type "ValueError") row_ValueError = true)
    (a_law_mixed : PySem.W.nsIn K mainGlobals "_law_mixed" = some (some (.ref f_law_mixed)))
    (l_law_mixed : K.lookup f_law_mixed = some ⟨oc_law_mixed, od_law_mixed, .func (PySem.W.fnOf "_law_mixed" "_law_mixed" (defArgs s_law_mixed) (defBody s_law_mixed) (defScope s_law_mixed) .none kV_law_mixed dc_law_mixed pm_law_mixed an_law_mixed cd_law_mixed ct_law_mixed), sl_law_mixed⟩)
    (cc_law_mixed : PySem.W.codeIn K cd_law_mixed "_law_mixed" = true)
    (k_law_mixed : PySem.W.keepIn K (.ref f_law_mixed) = true)
    (a_law_pool : PySem.W.nsIn K mainGlobals "_law_pool" = some (some (.ref f_law_pool)))
    (l_law_pool : K.lookup f_law_pool = some ⟨oc_law_pool, od_law_pool, .func (PySem.W.fnOf "_law_pool" "_law_pool" (defArgs s_law_pool) (defBody s_law_pool) (defScope s_law_pool) .none kV_law_pool dc_law_pool pm_law_pool an_law_pool cd_law_pool ct_law_pool), sl_law_pool⟩)
    (cc_law_pool : PySem.W.codeIn K cd_law_pool "_law_pool" = true)
    (k_law_pool : PySem.W.keepIn K (.ref f_law_pool) = true)
    (a_law_word : PySem.W.nsIn K mainGlobals "_law_word" = some (some (.ref f_law_word)))
    (l_law_word : K.lookup f_law_word = some ⟨oc_law_word, od_law_word, .func (PySem.W.fnOf "_law_word" "_law_word" (defArgs s_law_word) (defBody s_law_word) (defScope s_law_word) .none kV_law_word dc_law_word pm_law_word an_law_word cd_law_word ct_law_word), sl_law_word⟩)
    (cc_law_word : PySem.W.codeIn K cd_law_word "_law_word" = true)
    (k_law_word : PySem.W.keepIn K (.ref f_law_word) = true)
    (a_law_number : PySem.W.nsIn K mainGlobals "_law_number" = some (some (.ref f_law_number)))
    (l_law_number : K.lookup f_law_number = some ⟨oc_law_number, od_law_number, .func (PySem.W.fnOf "_law_number" "_law_number" (defArgs s_law_number) (defBody s_law_number) (defScope s_law_number) .none kV_law_number dc_law_number pm_law_number an_law_number cd_law_number ct_law_number), sl_law_number⟩)
    (cc_law_number : PySem.W.codeIn K cd_law_number "_law_number" = true)
    (k_law_number : PySem.W.keepIn K (.ref f_law_number) = true)
    (a_law_fields_of : PySem.W.nsIn K mainGlobals "_law_fields_of" = some (some (.ref f_law_fields_of)))
    (l_law_fields_of : K.lookup f_law_fields_of = some ⟨oc_law_fields_of, od_law_fields_of, .func (PySem.W.fnOf "_law_fields_of" "_law_fields_of" (defArgs s_law_fields_of) (defBody s_law_fields_of) (defScope s_law_fields_of) .none kV_law_fields_of dc_law_fields_of pm_law_fields_of an_law_fields_of cd_law_fields_of ct_law_fields_of), sl_law_fields_of⟩)
    (cc_law_fields_of : PySem.W.codeIn K cd_law_fields_of "_law_fields_of" = true)
    (k_law_fields_of : PySem.W.keepIn K (.ref f_law_fields_of) = true)
    (a_law_made : PySem.W.nsIn K mainGlobals "_law_made" = some (some (.ref f_law_made)))
    (l_law_made : K.lookup f_law_made = some ⟨oc_law_made, od_law_made, .func (PySem.W.fnOf "_law_made" "_law_made" (defArgs s_law_made) (defBody s_law_made) (defScope s_law_made) .none kV_law_made dc_law_made pm_law_made an_law_made cd_law_made ct_law_made), sl_law_made⟩)
    (cc_law_made : PySem.W.codeIn K cd_law_made "_law_made" = true)
    (k_law_made : PySem.W.keepIn K (.ref f_law_made) = true)
    (a_law_same : PySem.W.nsIn K mainGlobals "_law_same" = some (some (.ref f_law_same)))
    (l_law_same : K.lookup f_law_same = some ⟨oc_law_same, od_law_same, .func (PySem.W.fnOf "_law_same" "_law_same" (defArgs s_law_same) (defBody s_law_same) (defScope s_law_same) .none kV_law_same dc_law_same pm_law_same an_law_same cd_law_same ct_law_same), sl_law_same⟩)
    (cc_law_same : PySem.W.codeIn K cd_law_same "_law_same" = true)
    (k_law_same : PySem.W.keepIn K (.ref f_law_same) = true)
    (a_law_read : PySem.W.nsIn K mainGlobals "_law_read" = some (some (.ref f_law_read)))
    (l_law_read : K.lookup f_law_read = some ⟨oc_law_read, od_law_read, .func (PySem.W.fnOf "_law_read" "_law_read" (defArgs s_law_read) (defBody s_law_read) (defScope s_law_read) .none kV_law_read dc_law_read pm_law_read an_law_read cd_law_read ct_law_read), sl_law_read⟩)
    (cc_law_read : PySem.W.codeIn K cd_law_read "_law_read" = true)
    (k_law_read : PySem.W.keepIn K (.ref f_law_read) = true)
    (a_law_classes_of : PySem.W.nsIn K mainGlobals "_law_classes_of" = some (some (.ref f_law_classes_of)))
    (l_law_classes_of : K.lookup f_law_classes_of = some ⟨oc_law_classes_of, od_law_classes_of, .func (PySem.W.fnOf "_law_classes_of" "_law_classes_of" (defArgs s_law_classes_of) (defBody s_law_classes_of) (defScope s_law_classes_of) .none kV_law_classes_of dc_law_classes_of pm_law_classes_of an_law_classes_of cd_law_classes_of ct_law_classes_of), sl_law_classes_of⟩)
    (cc_law_classes_of : PySem.W.codeIn K cd_law_classes_of "_law_classes_of" = true)
    (k_law_classes_of : PySem.W.keepIn K (.ref f_law_classes_of) = true)
    (a_law_right : PySem.W.nsIn K mainGlobals "_law_right" = some (some (.ref f_law_right)))
    (l_law_right : K.lookup f_law_right = some ⟨oc_law_right, od_law_right, .func (PySem.W.fnOf "_law_right" "_law_right" (defArgs s_law_right) (defBody s_law_right) (defScope s_law_right) .none kV_law_right dc_law_right pm_law_right an_law_right cd_law_right ct_law_right), sl_law_right⟩)
    (cc_law_right : PySem.W.codeIn K cd_law_right "_law_right" = true)
    (k_law_right : PySem.W.keepIn K (.ref f_law_right) = true)
    (a_law : PySem.W.nsIn K mainGlobals "law" = some (some (.ref f_law)))
    (l_law : K.lookup f_law = some ⟨oc_law, od_law, .func (PySem.W.fnOf "law" "law" (defArgs s_law) (defBody s_law) (defScope s_law) .none kV_law dc_law pm_law an_law cd_law ct_law), sl_law⟩)
    (cc_law : PySem.W.codeIn K cd_law "law" = true)
    (k_law : PySem.W.keepIn K (.ref f_law) = true)
    (pure : ∀ ns : List Int, ns.length ≤ 63 → (∀ z ∈ ns, Builtin.Int.intBits z ≤ 1048576) → ∃ l, c_law [.scr ns] = .ok (.bl true) l) :
    ∃ fd : FuncData, (∀ (s : Shared) (v : Value), BindsTo s fd ⟨[v], []⟩ [("script", v)]) ∧ ∀ base : Heap, K.In base → base.Ns mainGlobals mg → FnOk P w K mg base (L2.CX P w) 10 fa fd ["script"] (spEnd K) := by
  have e := hfa.symm.trans (PySem.W.mg_of X G a_law)
  cases e
  have B_ValueError := PySem.W.mg_none_of X G z_ValueError
  have B_abs := PySem.W.mg_none_of X G z_abs
  have B_bool := PySem.W.mg_none_of X G z_bool
  have B_int := PySem.W.mg_none_of X G z_int
  have B_isinstance := PySem.W.mg_none_of X G z_isinstance
  have B_len := PySem.W.mg_none_of X G z_len
  have B_list := PySem.W.mg_none_of X G z_list
  have B_range := PySem.W.mg_none_of X G z_range
  have B_str := PySem.W.mg_none_of X G z_str
  have B_tuple := PySem.W.mg_none_of X G z_tuple
  have G_FullhandsError := PySem.W.mg_of X G a_FullhandsError
  have G_BadTable := PySem.W.mg_of X G a_BadTable
  have G_BadText := PySem.W.mg_of X G a_BadText
  have G_BadStanding := PySem.W.mg_of X G a_BadStanding
  have G_CannotMove := PySem.W.mg_of X G a_CannotMove
  have G_NoSuch := PySem.W.mg_of X G a_NoSuch
  have G_WrongGround := PySem.W.mg_of X G a_WrongGround
  have G_TooGreat := PySem.W.mg_of X G a_TooGreat
  have G_BadVector := PySem.W.mg_of X G a_BadVector
  have G_NotLocal := PySem.W.mg_of X G a_NotLocal
  have G_BadProgram := PySem.W.mg_of X G a_BadProgram
  have G_InUse := PySem.W.mg_of X G a_InUse
  have G_AttemptFailed := PySem.W.mg_of X G a_AttemptFailed
  have G_BadLot := PySem.W.mg_of X G a_BadLot
  have G_BadDealing := PySem.W.mg_of X G a_BadDealing
  have G_NotCore := PySem.W.mg_of X G a_NotCore
  have G_BadLoads := PySem.W.mg_of X G a_BadLoads
  have G_Impossible := PySem.W.mg_of X G a_Impossible
  have G_BadLine := PySem.W.mg_of X G a_BadLine
  have G_NothingToUndo := PySem.W.mg_of X G a_NothingToUndo
  have G_NothingToRedo := PySem.W.mg_of X G a_NothingToRedo
  have F_init_BadTable := fun_mk (st := s_init_BadTable) l_init_BadTable cc_init_BadTable k_init_BadTable
  have F_init_BadText := fun_mk (st := s_init_BadText) l_init_BadText cc_init_BadText k_init_BadText
  have F_init_BadStanding := fun_mk (st := s_init_BadStanding) l_init_BadStanding cc_init_BadStanding k_init_BadStanding
  have F_init_CannotMove := fun_mk (st := s_init_CannotMove) l_init_CannotMove cc_init_CannotMove k_init_CannotMove
  have F_init_NoSuch := fun_mk (st := s_init_NoSuch) l_init_NoSuch cc_init_NoSuch k_init_NoSuch
  have F_init_WrongGround := fun_mk (st := s_init_WrongGround) l_init_WrongGround cc_init_WrongGround k_init_WrongGround
  have F_init_TooGreat := fun_mk (st := s_init_TooGreat) l_init_TooGreat cc_init_TooGreat k_init_TooGreat
  have F_init_BadVector := fun_mk (st := s_init_BadVector) l_init_BadVector cc_init_BadVector k_init_BadVector
  have F_init_NotLocal := fun_mk (st := s_init_NotLocal) l_init_NotLocal cc_init_NotLocal k_init_NotLocal
  have F_init_BadProgram := fun_mk (st := s_init_BadProgram) l_init_BadProgram cc_init_BadProgram k_init_BadProgram
  have F_init_InUse := fun_mk (st := s_init_InUse) l_init_InUse cc_init_InUse k_init_InUse
  have F_init_AttemptFailed := fun_mk (st := s_init_AttemptFailed) l_init_AttemptFailed cc_init_AttemptFailed k_init_AttemptFailed
  have E_BadLot : Err0 K mg (clOf [C_FullhandsError, C_BadTable, C_BadText, C_BadStanding, C_CannotMove, C_NoSuch, C_WrongGround, C_TooGreat, C_BadVector, C_NotLocal, C_BadProgram, C_InUse, C_AttemptFailed, C_BadLot, C_BadDealing, C_NotCore, C_BadLoads, C_Impossible, C_BadLine, C_NothingToUndo, C_NothingToRedo]) 13 "BadLot" := ⟨C_BadLot, rfl, G_BadLot, k_BadLot, q_BadLot⟩
  have E_BadDealing : Err0 K mg (clOf [C_FullhandsError, C_BadTable, C_BadText, C_BadStanding, C_CannotMove, C_NoSuch, C_WrongGround, C_TooGreat, C_BadVector, C_NotLocal, C_BadProgram, C_InUse, C_AttemptFailed, C_BadLot, C_BadDealing, C_NotCore, C_BadLoads, C_Impossible, C_BadLine, C_NothingToUndo, C_NothingToRedo]) 14 "BadDealing" := ⟨C_BadDealing, rfl, G_BadDealing, k_BadDealing, q_BadDealing⟩
  have E_NotCore : Err0 K mg (clOf [C_FullhandsError, C_BadTable, C_BadText, C_BadStanding, C_CannotMove, C_NoSuch, C_WrongGround, C_TooGreat, C_BadVector, C_NotLocal, C_BadProgram, C_InUse, C_AttemptFailed, C_BadLot, C_BadDealing, C_NotCore, C_BadLoads, C_Impossible, C_BadLine, C_NothingToUndo, C_NothingToRedo]) 15 "NotCore" := ⟨C_NotCore, rfl, G_NotCore, k_NotCore, q_NotCore⟩
  have E_BadLoads : Err0 K mg (clOf [C_FullhandsError, C_BadTable, C_BadText, C_BadStanding, C_CannotMove, C_NoSuch, C_WrongGround, C_TooGreat, C_BadVector, C_NotLocal, C_BadProgram, C_InUse, C_AttemptFailed, C_BadLot, C_BadDealing, C_NotCore, C_BadLoads, C_Impossible, C_BadLine, C_NothingToUndo, C_NothingToRedo]) 16 "BadLoads" := ⟨C_BadLoads, rfl, G_BadLoads, k_BadLoads, q_BadLoads⟩
  have E_Impossible : Err0 K mg (clOf [C_FullhandsError, C_BadTable, C_BadText, C_BadStanding, C_CannotMove, C_NoSuch, C_WrongGround, C_TooGreat, C_BadVector, C_NotLocal, C_BadProgram, C_InUse, C_AttemptFailed, C_BadLot, C_BadDealing, C_NotCore, C_BadLoads, C_Impossible, C_BadLine, C_NothingToUndo, C_NothingToRedo]) 17 "Impossible" := ⟨C_Impossible, rfl, G_Impossible, k_Impossible, q_Impossible⟩
  have E_BadLine : Err0 K mg (clOf [C_FullhandsError, C_BadTable, C_BadText, C_BadStanding, C_CannotMove, C_NoSuch, C_WrongGround, C_TooGreat, C_BadVector, C_NotLocal, C_BadProgram, C_InUse, C_AttemptFailed, C_BadLot, C_BadDealing, C_NotCore, C_BadLoads, C_Impossible, C_BadLine, C_NothingToUndo, C_NothingToRedo]) 18 "BadLine" := ⟨C_BadLine, rfl, G_BadLine, k_BadLine, q_BadLine⟩
  have E_NothingToUndo : Err0 K mg (clOf [C_FullhandsError, C_BadTable, C_BadText, C_BadStanding, C_CannotMove, C_NoSuch, C_WrongGround, C_TooGreat, C_BadVector, C_NotLocal, C_BadProgram, C_InUse, C_AttemptFailed, C_BadLot, C_BadDealing, C_NotCore, C_BadLoads, C_Impossible, C_BadLine, C_NothingToUndo, C_NothingToRedo]) 19 "NothingToUndo" := ⟨C_NothingToUndo, rfl, G_NothingToUndo, k_NothingToUndo, q_NothingToUndo⟩
  have E_NothingToRedo : Err0 K mg (clOf [C_FullhandsError, C_BadTable, C_BadText, C_BadStanding, C_CannotMove, C_NoSuch, C_WrongGround, C_TooGreat, C_BadVector, C_NotLocal, C_BadProgram, C_InUse, C_AttemptFailed, C_BadLot, C_BadDealing, C_NotCore, C_BadLoads, C_Impossible, C_BadLine, C_NothingToUndo, C_NothingToRedo]) 20 "NothingToRedo" := ⟨C_NothingToRedo, rfl, G_NothingToRedo, k_NothingToRedo, q_NothingToRedo⟩
  have R_CannotMove := kitRow_ok r_CannotMove
  have R_BadStanding := kitRow_ok r_BadStanding
  have R_BadText := kitRow_ok r_BadText
  have R_BadTable := kitRow_ok r_BadTable
  have R_BadVector := kitRow_ok r_BadVector
  have R_TooGreat := kitRow_ok r_TooGreat
  have R_WrongGround := kitRow_ok r_WrongGround
  have R_NoSuch := kitRow_ok r_NoSuch
  have R_InUse := kitRow_ok r_InUse
  have R_BadProgram := kitRow_ok r_BadProgram
  have R_NotLocal := kitRow_ok r_NotLocal
  have R_BadDealing := kitRow_ok r_BadDealing
  have R_BadLot := kitRow_ok r_BadLot
  have R_AttemptFailed := kitRow_ok r_AttemptFailed
  have R_BadLine := kitRow_ok r_BadLine
  have R_Impossible := kitRow_ok r_Impossible
  have R_BadLoads := kitRow_ok r_BadLoads
  have R_NotCore := kitRow_ok r_NotCore
  have R_NothingToRedo := kitRow_ok r_NothingToRedo
  have R_NothingToUndo := kitRow_ok r_NothingToUndo
  have R_FullhandsError := kitRow_ok r_FullhandsError
  have R_ValueError := kitRow_ok r_ValueError
  have X_index : ∀ c ∈ [(1 : Nat), (3 : Nat), (4 : Nat), (8 : Nat), (12 : Nat)], ∃ C, clOf [C_FullhandsError, C_BadTable, C_BadText, C_BadStanding, C_CannotMove, C_NoSuch, C_WrongGround, C_TooGreat, C_BadVector, C_NotLocal, C_BadProgram, C_InUse, C_AttemptFailed, C_BadLot, C_BadDealing, C_NotCore, C_BadLoads, C_Impossible, C_BadLine, C_NothingToUndo, C_NothingToRedo] c = some C ∧ ExcC K C ∧ PySem.W.findIn K (.ref C) "index" = some none := by
    intro c hc
    simp only [List.mem_cons, List.not_mem_nil, or_false] at hc
    rcases hc with rfl | rfl | rfl | rfl | rfl
    · exact ⟨C_BadTable, rfl, (oexB_ok o_BadTable).2, noAttB_ok n_BadTable "index" (by decide)⟩
    · exact ⟨C_BadStanding, rfl, (oexB_ok o_BadStanding).2, noAttB_ok n_BadStanding "index" (by decide)⟩
    · exact ⟨C_CannotMove, rfl, (oexB_ok o_CannotMove).2, noAttB_ok n_CannotMove "index" (by decide)⟩
    · exact ⟨C_BadVector, rfl, (oexB_ok o_BadVector).2, noAttB_ok n_BadVector "index" (by decide)⟩
    · exact ⟨C_AttemptFailed, rfl, (oexB_ok o_AttemptFailed).2, noAttB_ok n_AttemptFailed "index" (by decide)⟩
  have X_place : ∀ c ∈ [(1 : Nat), (3 : Nat)], ∃ C, clOf [C_FullhandsError, C_BadTable, C_BadText, C_BadStanding, C_CannotMove, C_NoSuch, C_WrongGround, C_TooGreat, C_BadVector, C_NotLocal, C_BadProgram, C_InUse, C_AttemptFailed, C_BadLot, C_BadDealing, C_NotCore, C_BadLoads, C_Impossible, C_BadLine, C_NothingToUndo, C_NothingToRedo] c = some C ∧ ExcC K C ∧ PySem.W.findIn K (.ref C) "place" = some none := by
    intro c hc
    simp only [List.mem_cons, List.not_mem_nil, or_false] at hc
    rcases hc with rfl | rfl
    · exact ⟨C_BadTable, rfl, (oexB_ok o_BadTable).2, noAttB_ok n_BadTable "place" (by decide)⟩
    · exact ⟨C_BadStanding, rfl, (oexB_ok o_BadStanding).2, noAttB_ok n_BadStanding "place" (by decide)⟩
  have X_line : ∀ c ∈ [(2 : Nat), (10 : Nat)], ∃ C, clOf [C_FullhandsError, C_BadTable, C_BadText, C_BadStanding, C_CannotMove, C_NoSuch, C_WrongGround, C_TooGreat, C_BadVector, C_NotLocal, C_BadProgram, C_InUse, C_AttemptFailed, C_BadLot, C_BadDealing, C_NotCore, C_BadLoads, C_Impossible, C_BadLine, C_NothingToUndo, C_NothingToRedo] c = some C ∧ ExcC K C ∧ PySem.W.findIn K (.ref C) "line" = some none := by
    intro c hc
    simp only [List.mem_cons, List.not_mem_nil, or_false] at hc
    rcases hc with rfl | rfl
    · exact ⟨C_BadText, rfl, (oexB_ok o_BadText).2, noAttB_ok n_BadText "line" (by decide)⟩
    · exact ⟨C_BadProgram, rfl, (oexB_ok o_BadProgram).2, noAttB_ok n_BadProgram "line" (by decide)⟩
  have X_what : ∀ c ∈ [(5 : Nat), (7 : Nat), (11 : Nat)], ∃ C, clOf [C_FullhandsError, C_BadTable, C_BadText, C_BadStanding, C_CannotMove, C_NoSuch, C_WrongGround, C_TooGreat, C_BadVector, C_NotLocal, C_BadProgram, C_InUse, C_AttemptFailed, C_BadLot, C_BadDealing, C_NotCore, C_BadLoads, C_Impossible, C_BadLine, C_NothingToUndo, C_NothingToRedo] c = some C ∧ ExcC K C ∧ PySem.W.findIn K (.ref C) "what" = some none := by
    intro c hc
    simp only [List.mem_cons, List.not_mem_nil, or_false] at hc
    rcases hc with rfl | rfl | rfl
    · exact ⟨C_NoSuch, rfl, (oexB_ok o_NoSuch).2, noAttB_ok n_NoSuch "what" (by decide)⟩
    · exact ⟨C_TooGreat, rfl, (oexB_ok o_TooGreat).2, noAttB_ok n_TooGreat "what" (by decide)⟩
    · exact ⟨C_InUse, rfl, (oexB_ok o_InUse).2, noAttB_ok n_InUse "what" (by decide)⟩
  have X_needed : ∀ c ∈ [(6 : Nat)], ∃ C, clOf [C_FullhandsError, C_BadTable, C_BadText, C_BadStanding, C_CannotMove, C_NoSuch, C_WrongGround, C_TooGreat, C_BadVector, C_NotLocal, C_BadProgram, C_InUse, C_AttemptFailed, C_BadLot, C_BadDealing, C_NotCore, C_BadLoads, C_Impossible, C_BadLine, C_NothingToUndo, C_NothingToRedo] c = some C ∧ ExcC K C ∧ PySem.W.findIn K (.ref C) "needed" = some none := by
    intro c hc
    simp only [List.mem_cons, List.not_mem_nil, or_false] at hc
    rcases hc with rfl
    · exact ⟨C_WrongGround, rfl, (oexB_ok o_WrongGround).2, noAttB_ok n_WrongGround "needed" (by decide)⟩
  have X_reason : ∀ c ∈ [(4 : Nat)], ∃ C, clOf [C_FullhandsError, C_BadTable, C_BadText, C_BadStanding, C_CannotMove, C_NoSuch, C_WrongGround, C_TooGreat, C_BadVector, C_NotLocal, C_BadProgram, C_InUse, C_AttemptFailed, C_BadLot, C_BadDealing, C_NotCore, C_BadLoads, C_Impossible, C_BadLine, C_NothingToUndo, C_NothingToRedo] c = some C ∧ ExcC K C ∧ PySem.W.findIn K (.ref C) "reason" = some none := by
    intro c hc
    simp only [List.mem_cons, List.not_mem_nil, or_false] at hc
    rcases hc with rfl
    · exact ⟨C_CannotMove, rfl, (oexB_ok o_CannotMove).2, noAttB_ok n_CannotMove "reason" (by decide)⟩
  have X_word : ∀ c ∈ [(10 : Nat)], ∃ C, clOf [C_FullhandsError, C_BadTable, C_BadText, C_BadStanding, C_CannotMove, C_NoSuch, C_WrongGround, C_TooGreat, C_BadVector, C_NotLocal, C_BadProgram, C_InUse, C_AttemptFailed, C_BadLot, C_BadDealing, C_NotCore, C_BadLoads, C_Impossible, C_BadLine, C_NothingToUndo, C_NothingToRedo] c = some C ∧ ExcC K C ∧ PySem.W.findIn K (.ref C) "word" = some none := by
    intro c hc
    simp only [List.mem_cons, List.not_mem_nil, or_false] at hc
    rcases hc with rfl
    · exact ⟨C_BadProgram, rfl, (oexB_ok o_BadProgram).2, noAttB_ok n_BadProgram "word" (by decide)⟩
  have X_kind : ∀ c ∈ [(9 : Nat)], ∃ C, clOf [C_FullhandsError, C_BadTable, C_BadText, C_BadStanding, C_CannotMove, C_NoSuch, C_WrongGround, C_TooGreat, C_BadVector, C_NotLocal, C_BadProgram, C_InUse, C_AttemptFailed, C_BadLot, C_BadDealing, C_NotCore, C_BadLoads, C_Impossible, C_BadLine, C_NothingToUndo, C_NothingToRedo] c = some C ∧ ExcC K C ∧ PySem.W.findIn K (.ref C) "kind" = some none := by
    intro c hc
    simp only [List.mem_cons, List.not_mem_nil, or_false] at hc
    rcases hc with rfl
    · exact ⟨C_NotLocal, rfl, (oexB_ok o_NotLocal).2, noAttB_ok n_NotLocal "kind" (by decide)⟩
  have F_law_mixed := fun_mk (st := s_law_mixed) l_law_mixed cc_law_mixed k_law_mixed
  have b_law_mixed := F_law_mixed.binds (ps := ["number", "turn"]) (fun _ _ _ _ _ _ us hl => match us, hl with | [_, _], _ => rfl)
  have F_law_pool := fun_mk (st := s_law_pool) l_law_pool cc_law_pool k_law_pool
  have b_law_pool := F_law_pool.binds (ps := ["script", "many"]) (fun _ _ _ _ _ _ us hl => match us, hl with | [_, _], _ => rfl)
  have F_law_word := fun_mk (st := s_law_word) l_law_word cc_law_word k_law_word
  have b_law_word := F_law_word.binds (ps := ["pool", "at"]) (fun _ _ _ _ _ _ us hl => match us, hl with | [_, _], _ => rfl)
  have F_law_number := fun_mk (st := s_law_number) l_law_number cc_law_number k_law_number
  have b_law_number := F_law_number.binds (ps := ["pool", "at"]) (fun _ _ _ _ _ _ us hl => match us, hl with | [_, _], _ => rfl)
  have F_law_fields_of := fun_mk (st := s_law_fields_of) l_law_fields_of cc_law_fields_of k_law_fields_of
  have b_law_fields_of := F_law_fields_of.binds (ps := ["pool", "start"]) (fun _ _ _ _ _ _ us hl => match us, hl with | [_, _], _ => rfl)
  have F_law_made := fun_mk (st := s_law_made) l_law_made cc_law_made k_law_made
  have b_law_made := F_law_made.binds (ps := ["rows"]) (fun _ _ _ _ _ _ us hl => match us, hl with | [_], _ => rfl)
  have F_law_same := fun_mk (st := s_law_same) l_law_same cc_law_same k_law_same
  have b_law_same := F_law_same.binds (ps := ["actual", "due"]) (fun _ _ _ _ _ _ us hl => match us, hl with | [_, _], _ => rfl)
  have F_law_read := fun_mk (st := s_law_read) l_law_read cc_law_read k_law_read
  have b_law_read := F_law_read.binds (ps := ["found"]) (fun _ _ _ _ _ _ us hl => match us, hl with | [_], _ => rfl)
  have F_law_classes_of := fun_mk (st := s_law_classes_of) l_law_classes_of cc_law_classes_of k_law_classes_of
  have b_law_classes_of := F_law_classes_of.binds (ps := ["e"]) (fun _ _ _ _ _ _ us hl => match us, hl with | [_], _ => rfl)
  have F_law_right := fun_mk (st := s_law_right) l_law_right cc_law_right k_law_right
  have b_law_right := F_law_right.binds (ps := ["found", "rows"]) (fun _ _ _ _ _ _ us hl => match us, hl with | [_, _], _ => rfl)
  have F_law := fun_mk (st := s_law) l_law cc_law k_law
  have b_law := F_law.binds (ps := ["script"]) (fun _ _ _ _ _ _ us hl => match us, hl with | [_], _ => rfl)
  refine ⟨PySem.W.fnOf "law" "law" (defArgs s_law) (defBody s_law) (defScope s_law) .none kV_law dc_law pm_law an_law cd_law ct_law, fun s v => .of_eq rfl, fun base _ _ => ?_⟩
  have E_BadTable : ErrI P w K mg base (clOf [C_FullhandsError, C_BadTable, C_BadText, C_BadStanding, C_CannotMove, C_NoSuch, C_WrongGround, C_TooGreat, C_BadVector, C_NotLocal, C_BadProgram, C_InUse, C_AttemptFailed, C_BadLot, C_BadDealing, C_NotCore, C_BadLoads, C_Impossible, C_BadLine, C_NothingToUndo, C_NothingToRedo]) 1 "BadTable" ["place", "index"] := ⟨C_BadTable, fi_BadTable, _, rfl, G_BadTable, (oexB_ok o_BadTable).1, (oexB_ok o_BadTable).2, i_BadTable, t_BadTable, F_init_BadTable.binds (ps := ["self", "place", "index"]) (fun _ _ _ _ _ _ us hl => match us, hl with | [_, _, _], _ => rfl), noAttB_ok n_BadTable, ok_init_BadTable F_init_BadTable (oexB_ok o_BadTable).1 (noAttB_ok n_BadTable)⟩
  have E_BadText : ErrI P w K mg base (clOf [C_FullhandsError, C_BadTable, C_BadText, C_BadStanding, C_CannotMove, C_NoSuch, C_WrongGround, C_TooGreat, C_BadVector, C_NotLocal, C_BadProgram, C_InUse, C_AttemptFailed, C_BadLot, C_BadDealing, C_NotCore, C_BadLoads, C_Impossible, C_BadLine, C_NothingToUndo, C_NothingToRedo]) 2 "BadText" ["line"] := ⟨C_BadText, fi_BadText, _, rfl, G_BadText, (oexB_ok o_BadText).1, (oexB_ok o_BadText).2, i_BadText, t_BadText, F_init_BadText.binds (ps := ["self", "line"]) (fun _ _ _ _ _ _ us hl => match us, hl with | [_, _], _ => rfl), noAttB_ok n_BadText, ok_init_BadText F_init_BadText (oexB_ok o_BadText).1 (noAttB_ok n_BadText)⟩
  have E_BadStanding : ErrI P w K mg base (clOf [C_FullhandsError, C_BadTable, C_BadText, C_BadStanding, C_CannotMove, C_NoSuch, C_WrongGround, C_TooGreat, C_BadVector, C_NotLocal, C_BadProgram, C_InUse, C_AttemptFailed, C_BadLot, C_BadDealing, C_NotCore, C_BadLoads, C_Impossible, C_BadLine, C_NothingToUndo, C_NothingToRedo]) 3 "BadStanding" ["place", "index"] := ⟨C_BadStanding, fi_BadStanding, _, rfl, G_BadStanding, (oexB_ok o_BadStanding).1, (oexB_ok o_BadStanding).2, i_BadStanding, t_BadStanding, F_init_BadStanding.binds (ps := ["self", "place", "index"]) (fun _ _ _ _ _ _ us hl => match us, hl with | [_, _, _], _ => rfl), noAttB_ok n_BadStanding, ok_init_BadStanding F_init_BadStanding (oexB_ok o_BadStanding).1 (noAttB_ok n_BadStanding)⟩
  have E_CannotMove : ErrI P w K mg base (clOf [C_FullhandsError, C_BadTable, C_BadText, C_BadStanding, C_CannotMove, C_NoSuch, C_WrongGround, C_TooGreat, C_BadVector, C_NotLocal, C_BadProgram, C_InUse, C_AttemptFailed, C_BadLot, C_BadDealing, C_NotCore, C_BadLoads, C_Impossible, C_BadLine, C_NothingToUndo, C_NothingToRedo]) 4 "CannotMove" ["index", "reason"] := ⟨C_CannotMove, fi_CannotMove, _, rfl, G_CannotMove, (oexB_ok o_CannotMove).1, (oexB_ok o_CannotMove).2, i_CannotMove, t_CannotMove, F_init_CannotMove.binds (ps := ["self", "index", "reason"]) (fun _ _ _ _ _ _ us hl => match us, hl with | [_, _, _], _ => rfl), noAttB_ok n_CannotMove, ok_init_CannotMove F_init_CannotMove (oexB_ok o_CannotMove).1 (noAttB_ok n_CannotMove)⟩
  have E_NoSuch : ErrI P w K mg base (clOf [C_FullhandsError, C_BadTable, C_BadText, C_BadStanding, C_CannotMove, C_NoSuch, C_WrongGround, C_TooGreat, C_BadVector, C_NotLocal, C_BadProgram, C_InUse, C_AttemptFailed, C_BadLot, C_BadDealing, C_NotCore, C_BadLoads, C_Impossible, C_BadLine, C_NothingToUndo, C_NothingToRedo]) 5 "NoSuch" ["what"] := ⟨C_NoSuch, fi_NoSuch, _, rfl, G_NoSuch, (oexB_ok o_NoSuch).1, (oexB_ok o_NoSuch).2, i_NoSuch, t_NoSuch, F_init_NoSuch.binds (ps := ["self", "what"]) (fun _ _ _ _ _ _ us hl => match us, hl with | [_, _], _ => rfl), noAttB_ok n_NoSuch, ok_init_NoSuch F_init_NoSuch (oexB_ok o_NoSuch).1 (noAttB_ok n_NoSuch)⟩
  have E_WrongGround : ErrI P w K mg base (clOf [C_FullhandsError, C_BadTable, C_BadText, C_BadStanding, C_CannotMove, C_NoSuch, C_WrongGround, C_TooGreat, C_BadVector, C_NotLocal, C_BadProgram, C_InUse, C_AttemptFailed, C_BadLot, C_BadDealing, C_NotCore, C_BadLoads, C_Impossible, C_BadLine, C_NothingToUndo, C_NothingToRedo]) 6 "WrongGround" ["needed"] := ⟨C_WrongGround, fi_WrongGround, _, rfl, G_WrongGround, (oexB_ok o_WrongGround).1, (oexB_ok o_WrongGround).2, i_WrongGround, t_WrongGround, F_init_WrongGround.binds (ps := ["self", "needed"]) (fun _ _ _ _ _ _ us hl => match us, hl with | [_, _], _ => rfl), noAttB_ok n_WrongGround, ok_init_WrongGround F_init_WrongGround (oexB_ok o_WrongGround).1 (noAttB_ok n_WrongGround)⟩
  have E_TooGreat : ErrI P w K mg base (clOf [C_FullhandsError, C_BadTable, C_BadText, C_BadStanding, C_CannotMove, C_NoSuch, C_WrongGround, C_TooGreat, C_BadVector, C_NotLocal, C_BadProgram, C_InUse, C_AttemptFailed, C_BadLot, C_BadDealing, C_NotCore, C_BadLoads, C_Impossible, C_BadLine, C_NothingToUndo, C_NothingToRedo]) 7 "TooGreat" ["what"] := ⟨C_TooGreat, fi_TooGreat, _, rfl, G_TooGreat, (oexB_ok o_TooGreat).1, (oexB_ok o_TooGreat).2, i_TooGreat, t_TooGreat, F_init_TooGreat.binds (ps := ["self", "what"]) (fun _ _ _ _ _ _ us hl => match us, hl with | [_, _], _ => rfl), noAttB_ok n_TooGreat, ok_init_TooGreat F_init_TooGreat (oexB_ok o_TooGreat).1 (noAttB_ok n_TooGreat)⟩
  have E_BadVector : ErrI P w K mg base (clOf [C_FullhandsError, C_BadTable, C_BadText, C_BadStanding, C_CannotMove, C_NoSuch, C_WrongGround, C_TooGreat, C_BadVector, C_NotLocal, C_BadProgram, C_InUse, C_AttemptFailed, C_BadLot, C_BadDealing, C_NotCore, C_BadLoads, C_Impossible, C_BadLine, C_NothingToUndo, C_NothingToRedo]) 8 "BadVector" ["index"] := ⟨C_BadVector, fi_BadVector, _, rfl, G_BadVector, (oexB_ok o_BadVector).1, (oexB_ok o_BadVector).2, i_BadVector, t_BadVector, F_init_BadVector.binds (ps := ["self", "index"]) (fun _ _ _ _ _ _ us hl => match us, hl with | [_, _], _ => rfl), noAttB_ok n_BadVector, ok_init_BadVector F_init_BadVector (oexB_ok o_BadVector).1 (noAttB_ok n_BadVector)⟩
  have E_NotLocal : ErrI P w K mg base (clOf [C_FullhandsError, C_BadTable, C_BadText, C_BadStanding, C_CannotMove, C_NoSuch, C_WrongGround, C_TooGreat, C_BadVector, C_NotLocal, C_BadProgram, C_InUse, C_AttemptFailed, C_BadLot, C_BadDealing, C_NotCore, C_BadLoads, C_Impossible, C_BadLine, C_NothingToUndo, C_NothingToRedo]) 9 "NotLocal" ["kind"] := ⟨C_NotLocal, fi_NotLocal, _, rfl, G_NotLocal, (oexB_ok o_NotLocal).1, (oexB_ok o_NotLocal).2, i_NotLocal, t_NotLocal, F_init_NotLocal.binds (ps := ["self", "kind"]) (fun _ _ _ _ _ _ us hl => match us, hl with | [_, _], _ => rfl), noAttB_ok n_NotLocal, ok_init_NotLocal F_init_NotLocal (oexB_ok o_NotLocal).1 (noAttB_ok n_NotLocal)⟩
  have E_BadProgram : ErrI P w K mg base (clOf [C_FullhandsError, C_BadTable, C_BadText, C_BadStanding, C_CannotMove, C_NoSuch, C_WrongGround, C_TooGreat, C_BadVector, C_NotLocal, C_BadProgram, C_InUse, C_AttemptFailed, C_BadLot, C_BadDealing, C_NotCore, C_BadLoads, C_Impossible, C_BadLine, C_NothingToUndo, C_NothingToRedo]) 10 "BadProgram" ["line", "word"] := ⟨C_BadProgram, fi_BadProgram, _, rfl, G_BadProgram, (oexB_ok o_BadProgram).1, (oexB_ok o_BadProgram).2, i_BadProgram, t_BadProgram, F_init_BadProgram.binds (ps := ["self", "line", "word"]) (fun _ _ _ _ _ _ us hl => match us, hl with | [_, _, _], _ => rfl), noAttB_ok n_BadProgram, ok_init_BadProgram F_init_BadProgram (oexB_ok o_BadProgram).1 (noAttB_ok n_BadProgram)⟩
  have E_InUse : ErrI P w K mg base (clOf [C_FullhandsError, C_BadTable, C_BadText, C_BadStanding, C_CannotMove, C_NoSuch, C_WrongGround, C_TooGreat, C_BadVector, C_NotLocal, C_BadProgram, C_InUse, C_AttemptFailed, C_BadLot, C_BadDealing, C_NotCore, C_BadLoads, C_Impossible, C_BadLine, C_NothingToUndo, C_NothingToRedo]) 11 "InUse" ["what"] := ⟨C_InUse, fi_InUse, _, rfl, G_InUse, (oexB_ok o_InUse).1, (oexB_ok o_InUse).2, i_InUse, t_InUse, F_init_InUse.binds (ps := ["self", "what"]) (fun _ _ _ _ _ _ us hl => match us, hl with | [_, _], _ => rfl), noAttB_ok n_InUse, ok_init_InUse F_init_InUse (oexB_ok o_InUse).1 (noAttB_ok n_InUse)⟩
  have E_AttemptFailed : ErrI P w K mg base (clOf [C_FullhandsError, C_BadTable, C_BadText, C_BadStanding, C_CannotMove, C_NoSuch, C_WrongGround, C_TooGreat, C_BadVector, C_NotLocal, C_BadProgram, C_InUse, C_AttemptFailed, C_BadLot, C_BadDealing, C_NotCore, C_BadLoads, C_Impossible, C_BadLine, C_NothingToUndo, C_NothingToRedo]) 12 "AttemptFailed" ["index"] := ⟨C_AttemptFailed, fi_AttemptFailed, _, rfl, G_AttemptFailed, (oexB_ok o_AttemptFailed).1, (oexB_ok o_AttemptFailed).2, i_AttemptFailed, t_AttemptFailed, F_init_AttemptFailed.binds (ps := ["self", "index"]) (fun _ _ _ _ _ _ us hl => match us, hl with | [_, _], _ => rfl), noAttB_ok n_AttemptFailed, ok_init_AttemptFailed F_init_AttemptFailed (oexB_ok o_AttemptFailed).1 (noAttB_ok n_AttemptFailed)⟩
  have H_law_mixed : FnH P w K mg base (clOf [C_FullhandsError, C_BadTable, C_BadText, C_BadStanding, C_CannotMove, C_NoSuch, C_WrongGround, C_TooGreat, C_BadVector, C_NotLocal, C_BadProgram, C_InUse, C_AttemptFailed, C_BadLot, C_BadDealing, C_NotCore, C_BadLoads, C_Impossible, C_BadLine, C_NothingToUndo, C_NothingToRedo]) 1 2 "_law_mixed" ["number", "turn"] c_law_mixed := fnH_mk (PySem.W.mg_of X G a_law_mixed) k_law_mixed b_law_mixed (ok_law_mixed F_law_mixed B_int)
  have H_law_pool : FnH P w K mg base (clOf [C_FullhandsError, C_BadTable, C_BadText, C_BadStanding, C_CannotMove, C_NoSuch, C_WrongGround, C_TooGreat, C_BadVector, C_NotLocal, C_BadProgram, C_InUse, C_AttemptFailed, C_BadLot, C_BadDealing, C_NotCore, C_BadLoads, C_Impossible, C_BadLine, C_NothingToUndo, C_NothingToRedo]) 2 2 "_law_pool" ["script", "many"] c_law_pool := fnH_mk (PySem.W.mg_of X G a_law_pool) k_law_pool b_law_pool (ok_law_pool F_law_pool B_abs B_int B_len B_range H_law_mixed)
  have H_law_word : FnH P w K mg base (clOf [C_FullhandsError, C_BadTable, C_BadText, C_BadStanding, C_CannotMove, C_NoSuch, C_WrongGround, C_TooGreat, C_BadVector, C_NotLocal, C_BadProgram, C_InUse, C_AttemptFailed, C_BadLot, C_BadDealing, C_NotCore, C_BadLoads, C_Impossible, C_BadLine, C_NothingToUndo, C_NothingToRedo]) 1 2 "_law_word" ["pool", "at"] c_law_word := fnH_mk (PySem.W.mg_of X G a_law_word) k_law_word b_law_word (ok_law_word F_law_word B_int)
  have H_law_number : FnH P w K mg base (clOf [C_FullhandsError, C_BadTable, C_BadText, C_BadStanding, C_CannotMove, C_NoSuch, C_WrongGround, C_TooGreat, C_BadVector, C_NotLocal, C_BadProgram, C_InUse, C_AttemptFailed, C_BadLot, C_BadDealing, C_NotCore, C_BadLoads, C_Impossible, C_BadLine, C_NothingToUndo, C_NothingToRedo]) 1 2 "_law_number" ["pool", "at"] c_law_number := fnH_mk (PySem.W.mg_of X G a_law_number) k_law_number b_law_number (ok_law_number F_law_number B_int)
  have H_law_fields_of : FnH P w K mg base (clOf [C_FullhandsError, C_BadTable, C_BadText, C_BadStanding, C_CannotMove, C_NoSuch, C_WrongGround, C_TooGreat, C_BadVector, C_NotLocal, C_BadProgram, C_InUse, C_AttemptFailed, C_BadLot, C_BadDealing, C_NotCore, C_BadLoads, C_Impossible, C_BadLine, C_NothingToUndo, C_NothingToRedo]) 2 2 "_law_fields_of" ["pool", "start"] c_law_fields_of := fnH_mk (PySem.W.mg_of X G a_law_fields_of) k_law_fields_of b_law_fields_of (ok_law_fields_of F_law_fields_of B_range H_law_word H_law_number)
  have H_law_made : FnH P w K mg base (clOf [C_FullhandsError, C_BadTable, C_BadText, C_BadStanding, C_CannotMove, C_NoSuch, C_WrongGround, C_TooGreat, C_BadVector, C_NotLocal, C_BadProgram, C_InUse, C_AttemptFailed, C_BadLot, C_BadDealing, C_NotCore, C_BadLoads, C_Impossible, C_BadLine, C_NothingToUndo, C_NothingToRedo]) 3 1 "_law_made" ["rows"] c_law_made := fnH_mk (PySem.W.mg_of X G a_law_made) k_law_made b_law_made (ok_law_made F_law_made E_BadStanding E_BadText E_BadTable E_WrongGround E_NoSuch E_CannotMove E_NotLocal E_BadVector E_TooGreat E_AttemptFailed E_InUse E_BadProgram E_BadLine E_Impossible E_BadLoads E_NotCore E_BadDealing E_BadLot E_NothingToRedo E_NothingToUndo)
  have H_law_same : FnH P w K mg base (clOf [C_FullhandsError, C_BadTable, C_BadText, C_BadStanding, C_CannotMove, C_NoSuch, C_WrongGround, C_TooGreat, C_BadVector, C_NotLocal, C_BadProgram, C_InUse, C_AttemptFailed, C_BadLot, C_BadDealing, C_NotCore, C_BadLoads, C_Impossible, C_BadLine, C_NothingToUndo, C_NothingToRedo]) 8 2 "_law_same" ["actual", "due"] (c_law_same 8) := fnH_mk (PySem.W.mg_of X G a_law_same) k_law_same b_law_same (ok_law_same F_law_same B_bool B_int B_isinstance B_len B_list B_range B_str B_tuple (PySem.W.mg_of X G a_law_same) b_law_same 8)
  have H_law_read : FnH P w K mg base (clOf [C_FullhandsError, C_BadTable, C_BadText, C_BadStanding, C_CannotMove, C_NoSuch, C_WrongGround, C_TooGreat, C_BadVector, C_NotLocal, C_BadProgram, C_InUse, C_AttemptFailed, C_BadLot, C_BadDealing, C_NotCore, C_BadLoads, C_Impossible, C_BadLine, C_NothingToUndo, C_NothingToRedo]) 1 1 "_law_read" ["found"] c_law_read := fnH_mk (PySem.W.mg_of X G a_law_read) k_law_read b_law_read (ok_law_read F_law_read X_index X_place X_line X_what X_needed X_reason X_word X_kind)
  have H_law_classes_of : FnH P w K mg base (clOf [C_FullhandsError, C_BadTable, C_BadText, C_BadStanding, C_CannotMove, C_NoSuch, C_WrongGround, C_TooGreat, C_BadVector, C_NotLocal, C_BadProgram, C_InUse, C_AttemptFailed, C_BadLot, C_BadDealing, C_NotCore, C_BadLoads, C_Impossible, C_BadLine, C_NothingToUndo, C_NothingToRedo]) 1 1 "_law_classes_of" ["e"] c_law_classes_of := fnH_mk (PySem.W.mg_of X G a_law_classes_of) k_law_classes_of b_law_classes_of (ok_law_classes_of F_law_classes_of B_isinstance G_CannotMove R_CannotMove G_BadStanding R_BadStanding G_BadText R_BadText G_BadTable R_BadTable G_BadVector R_BadVector G_TooGreat R_TooGreat G_WrongGround R_WrongGround G_NoSuch R_NoSuch G_InUse R_InUse G_BadProgram R_BadProgram G_NotLocal R_NotLocal G_BadDealing R_BadDealing G_BadLot R_BadLot G_AttemptFailed R_AttemptFailed G_BadLine R_BadLine G_Impossible R_Impossible G_BadLoads R_BadLoads G_NotCore R_NotCore G_NothingToRedo R_NothingToRedo G_NothingToUndo R_NothingToUndo)
  have H_law_right : FnH P w K mg base (clOf [C_FullhandsError, C_BadTable, C_BadText, C_BadStanding, C_CannotMove, C_NoSuch, C_WrongGround, C_TooGreat, C_BadVector, C_NotLocal, C_BadProgram, C_InUse, C_AttemptFailed, C_BadLot, C_BadDealing, C_NotCore, C_BadLoads, C_Impossible, C_BadLine, C_NothingToUndo, C_NothingToRedo]) 9 2 "_law_right" ["found", "rows"] c_law_right := fnH_mk (PySem.W.mg_of X G a_law_right) k_law_right b_law_right (ok_law_right F_law_right B_ValueError B_isinstance B_range G_FullhandsError R_FullhandsError R_ValueError H_law_read H_law_same H_law_classes_of)
  exact fn_end (ok_law F_law H_law_pool H_law_fields_of H_law_made H_law_right) pure
end VL

namespace VL
open PySem
theorem eqD_int (a b : Int) : eqD (.int a) (.int b) = some (decide (a = b)) := by
  simp [eqD, toPy, SeqAt.shaped, PyData.eqv, PyData.canLay0, PyData.depth]
  exact Bool.eq_iff_iff.mpr (by simp)
theorem eqD_str {a b : Str} (ha : PyData.strOk a = true) (hb : PyData.strOk b = true) : eqD (.str a) (.str b) = some (decide (a = b)) := by
  simp [eqD, toPy, SeqAt.shaped, PyData.eqv, PyData.canLay0, PyData.depth, ha, hb]
  by_cases h : a = b
  · subst h; simp
  · have : (a == b) = false := by simpa using h
    rw [this]; simp [h]
theorem e_mixed (a b : Int) : ∃ r, c_law_mixed [.int a, .int b] = .ok (.int r) 2 ∧ 0 ≤ r ∧ r < 1000 := by
  have h1 : 0 ≤ (a * 48271 + b * 69621 + 11) % 2147483647 := Int.emod_nonneg _ (by decide)
  have h2 : (a * 48271 + b * 69621 + 11) % 2147483647 < 2147483647 := Int.emod_lt_of_pos _ (by decide)
  have e : c_law_mixed [.int a, .int b] = .ok (.int (((((a * 48271 + b * 69621 + 11) % 2147483647) * ((a * 48271 + b * 69621 + 11) % 2147483647) + b * 40692 + 7) % 2147483399) / 7 % 1000)) 2 := by
    generalize hq : (a * 48271 + b * 69621 + 11) % 2147483647 = q at h1 h2 ⊢
    have hc1 : -18446744073709551616 < q := by omega
    have hc2 : q < 18446744073709551616 := by omega
    simp [vDef, env0, vSeq, vSet, put, frz, thaw, vName, nrm, noMut, noMutL, v2, v1, vC, gIC, gI, gAdd, gMul, cMul, vCons, vCall, g1, gInt, gLen, gAbs, vRet, vRetName, vIfS, tB_, tV, vLst, vTup, lstRv, gridChild, isFlat, dsOf, alOf, mkL, gCat, gCatT, gCatS, gIx, atD, gEq, gIsN, gIsB, gIsi, isiD, vAnd, vOr, vNot, truD, tNot_, tAnd_, tOr_, vNeg, vCallF, frRv, vFor, loopV, gN, iRange1, upTo, rngOk, vComp, compV, compRv, wipeE, iSeq, itemsD, c_law_mixed, b_law_mixed, hq, hc1, hc2]
  exact ⟨_, e, Int.emod_nonneg _ (by decide), Int.emod_lt_of_pos _ (by decide)⟩

theorem atI_ok {α : Type} {p : List α} {i : Int} (h : 0 ≤ i) (h2 : i < p.length) : ∃ d, L2.atI p i = some d ∧ d ∈ p := by
  obtain ⟨n, rfl⟩ := Int.eq_ofNat_of_zero_le h
  have hn : n < p.length := by omega
  refine ⟨p[n], ?_, List.getElem_mem hn⟩
  unfold L2.atI L2.ixN
  rw [if_pos h, if_pos h2]
  simp [hn]
/-- a pool: n numbers from 0 to 999 -/
def Pool (n : Nat) (p : List D) : Prop := p.length = n ∧ ∀ d ∈ p, ∃ i : Int, d = .int i ∧ 0 ≤ i ∧ i < 1000
theorem Pool.at_ {n : Nat} {p : List D} (h : Pool n p) {i : Int} (h1 : 0 ≤ i) (h2 : i < n) : ∃ j : Int, L2.atI p i = some (.int j) ∧ 0 ≤ j ∧ j < 1000 := by
  obtain ⟨d, e, hd⟩ := atI_ok (p := p) h1 (by rw [h.1]; exact h2)
  obtain ⟨j, rfl, h3⟩ := h.2 d hd
  exact ⟨j, e, h3⟩
theorem e_word {n : Nat} {p : List D} (h : Pool n p) {i : Int} (h1 : 0 ≤ i) (h2 : i < n) : ∃ s, PyData.strOk s = true ∧ c_law_word [.lst p, .int i] = .ok (.str s) 2 := by
  obtain ⟨j, e, h3, h4⟩ := h.at_ h1 h2
  have hj1 : 0 ≤ j % 18 := by omega
  have hj2 : j % 18 < 18 := by omega
  obtain ⟨d, e2, hd⟩ := atI_ok (p := [D.str "people", D.str "hands", D.str "ties", D.str "web", D.str "kinds", D.str "quick", D.str "shares", D.str "rows", D.str "places", D.str "most", D.str "share", D.str "none", D.str "unknown", D.str "tree", D.str "one hand", D.str "no quick", D.str "events", D.str ""]) hj1 hj2
  have hs : ∃ s, PyData.strOk s = true ∧ d = .str s := by
    simp only [List.mem_cons, List.not_mem_nil, or_false] at hd
    rcases hd with h | h | h | h | h | h | h | h | h | h | h | h | h | h | h | h | h | h <;> exact ⟨_, by decide +kernel, h⟩
  obtain ⟨s, ok, rfl⟩ := hs
  refine ⟨s, ok, ?_⟩
  simp [vDef, env0, vSeq, vSet, put, frz, thaw, vName, nrm, noMut, noMutL, v2, v1, vC, gIC, gI, gAdd, gMul, cMul, vCons, vCall, g1, gInt, gLen, gAbs, vRet, vRetName, vIfS, tB_, tV, vLst, vTup, lstRv, gridChild, isFlat, dsOf, alOf, mkL, gCat, gCatT, gCatS, gIx, atD, gEq, gIsN, gIsB, gIsi, isiD, vAnd, vOr, vNot, truD, tNot_, tAnd_, tOr_, vNeg, vCallF, frRv, vFor, loopV, gN, iRange1, upTo, rngOk, vComp, compV, compRv, wipeE, iSeq, itemsD, c_law_word, b_law_word, e]
  rw [e2]
  simp [vDef, env0, vSeq, vSet, put, frz, thaw, vName, nrm, noMut, noMutL, v2, v1, vC, gIC, gI, gAdd, gMul, cMul, vCons, vCall, g1, gInt, gLen, gAbs, vRet, vRetName, vIfS, tB_, tV, vLst, vTup, lstRv, gridChild, isFlat, dsOf, alOf, mkL, gCat, gCatT, gCatS, gIx, atD, gEq, gIsN, gIsB, gIsi, isiD, vAnd, vOr, vNot, truD, tNot_, tAnd_, tOr_, vNeg, vCallF, frRv, vFor, loopV, gN, iRange1, upTo, rngOk, vComp, compV, compRv, wipeE, iSeq, itemsD]
theorem e_number {n : Nat} {p : List D} (h : Pool n p) {i : Int} (h1 : 0 ≤ i) (h2 : i + 1 < n) : ∃ s, c_law_number [.lst p, .int i] = .ok (.int s) 2 := by
  obtain ⟨j, e, h3, h4⟩ := h.at_ h1 (by omega)
  obtain ⟨k, e2, h5, h6⟩ := h.at_ (i := i + 1) (by omega) h2
  have hc1 : -18446744073709551616 < 1 + k := by omega
  have hc2 : 1 + k < 18446744073709551616 := by omega
  by_cases a : j % 4 = 1
  · simp [vDef, env0, vSeq, vSet, put, frz, thaw, vName, nrm, noMut, noMutL, v2, v1, vC, gIC, gI, gAdd, gMul, cMul, vCons, vCall, g1, gInt, gLen, gAbs, vRet, vRetName, vIfS, tB_, tV, vLst, vTup, lstRv, gridChild, isFlat, dsOf, alOf, mkL, gCat, gCatT, gCatS, gIx, atD, gEq, gIsN, gIsB, gIsi, isiD, vAnd, vOr, vNot, truD, tNot_, tAnd_, tOr_, vNeg, vCallF, frRv, vFor, loopV, gN, iRange1, upTo, rngOk, vComp, compV, compRv, wipeE, iSeq, itemsD, c_law_number, b_law_number, e, e2, eqD_int, a]
  · by_cases b : j % 4 = 2
    · simp [vDef, env0, vSeq, vSet, put, frz, thaw, vName, nrm, noMut, noMutL, v2, v1, vC, gIC, gI, gAdd, gMul, cMul, vCons, vCall, g1, gInt, gLen, gAbs, vRet, vRetName, vIfS, tB_, tV, vLst, vTup, lstRv, gridChild, isFlat, dsOf, alOf, mkL, gCat, gCatT, gCatS, gIx, atD, gEq, gIsN, gIsB, gIsi, isiD, vAnd, vOr, vNot, truD, tNot_, tAnd_, tOr_, vNeg, vCallF, frRv, vFor, loopV, gN, iRange1, upTo, rngOk, vComp, compV, compRv, wipeE, iSeq, itemsD, c_law_number, b_law_number, e, e2, eqD_int, b, hc1, hc2]
    · simp [vDef, env0, vSeq, vSet, put, frz, thaw, vName, nrm, noMut, noMutL, v2, v1, vC, gIC, gI, gAdd, gMul, cMul, vCons, vCall, g1, gInt, gLen, gAbs, vRet, vRetName, vIfS, tB_, tV, vLst, vTup, lstRv, gridChild, isFlat, dsOf, alOf, mkL, gCat, gCatT, gCatS, gIx, atD, gEq, gIsN, gIsB, gIsi, isiD, vAnd, vOr, vNot, truD, tNot_, tAnd_, tOr_, vNeg, vCallF, frRv, vFor, loopV, gN, iRange1, upTo, rngOk, vComp, compV, compRv, wipeE, iSeq, itemsD, c_law_number, b_law_number, e, e2, eqD_int, a, b]

def wordOf (p : List D) (i : Int) : Str := match c_law_word [.lst p, .int i] with
  | .ok (.str s) _ => s
  | _ => ""
theorem e_word' {n : Nat} {p : List D} (h : Pool n p) {i : Int} (h1 : 0 ≤ i) (h2 : i < n) : c_law_word [.lst p, .int i] = .ok (.str (wordOf p i)) 2 ∧ PyData.strOk (wordOf p i) = true := by
  obtain ⟨s, k, e⟩ := e_word h h1 h2
  unfold wordOf
  rw [e]
  exact ⟨rfl, k⟩
def numOf (p : List D) (i : Int) : Int := match c_law_number [.lst p, .int i] with
  | .ok (.int s) _ => s
  | _ => 0
theorem e_number' {n : Nat} {p : List D} (h : Pool n p) {i : Int} (h1 : 0 ≤ i) (h2 : i + 1 < n) : c_law_number [.lst p, .int i] = .ok (.int (numOf p i)) 2 := by
  obtain ⟨s, e⟩ := e_number h h1 h2
  unfold numOf
  rw [e]
/-- the rows of the fields -/
def rowsOf (w0 w1 w2 w3 w4 w5 w6 : Str) (n0 n1 n2 n3 n4 n5 n6 n7 n8 : Int) : List D :=
  [.tup [.str w0, .int n0], .tup [.int n1], .tup [.str w1, .int n2], .tup [.int n3, .str w2], .tup [.str w3], .tup [.str w4], .tup [.str w5], .tup [.int n4], .tup [.int n5], .tup [.int n6, .int n7], .tup [.str w6], .tup [.int n8], .tup [], .tup [], .tup [], .tup [], .tup [], .tup [], .tup [], .tup []]
theorem e_fields {p : List D} (h : Pool 60 p) {a : Int} (h1 : 0 ≤ a) (h2 : a ≤ 30) : c_law_fields_of [.lst p, .int a] = .ok (.lst (rowsOf (wordOf p a) (wordOf p (a + 1)) (wordOf p (a + 2)) (wordOf p (a + 3)) (wordOf p (a + 4)) (wordOf p (a + 5)) (wordOf p (a + 6))
    (numOf p (a + 7)) (numOf p (a + 7 + 2)) (numOf p (a + 7 + 4)) (numOf p (a + 7 + 6)) (numOf p (a + 7 + 8)) (numOf p (a + 7 + 10)) (numOf p (a + 7 + 12)) (numOf p (a + 7 + 14)) (numOf p (a + 7 + 16)))) 2 := by
  have w0 := (e_word' h (i := a) (by omega) (by omega)).1
  have w1 := (e_word' h (i := a + 1) (by omega) (by omega)).1
  have w2 := (e_word' h (i := a + 2) (by omega) (by omega)).1
  have w3 := (e_word' h (i := a + 3) (by omega) (by omega)).1
  have w4 := (e_word' h (i := a + 4) (by omega) (by omega)).1
  have w5 := (e_word' h (i := a + 5) (by omega) (by omega)).1
  have w6 := (e_word' h (i := a + 6) (by omega) (by omega)).1
  have n0 := e_number' h (i := a + 7) (by omega) (by omega)
  have n1 := e_number' h (i := a + 7 + 2) (by omega) (by omega)
  have n2 := e_number' h (i := a + 7 + 4) (by omega) (by omega)
  have n3 := e_number' h (i := a + 7 + 6) (by omega) (by omega)
  have n4 := e_number' h (i := a + 7 + 8) (by omega) (by omega)
  have n5 := e_number' h (i := a + 7 + 10) (by omega) (by omega)
  have n6 := e_number' h (i := a + 7 + 12) (by omega) (by omega)
  have n7 := e_number' h (i := a + 7 + 14) (by omega) (by omega)
  have n8 := e_number' h (i := a + 7 + 16) (by omega) (by omega)
  simp [vDef, env0, vSeq, vSet, put, frz, thaw, vName, nrm, noMut, noMutL, v2, v1, vC, gIC, gI, gAdd, gMul, cMul, vCons, vCall, g1, gInt, gLen, gAbs, vRet, vRetName, vIfS, tB_, tV, vLst, vTup, lstRv, gridChild, isFlat, dsOf, alOf, mkL, gCat, gCatT, gCatS, gIx, atD, gEq, gIsN, gIsB, gIsi, isiD, vAnd, vOr, vNot, truD, tNot_, tAnd_, tOr_, vNeg, vCallF, frRv, vFor, loopV, gN, iRange1, upTo, rngOk, vComp, compV, compRv, wipeE, iSeq, itemsD, c_law_fields_of, b_law_fields_of, w0, w1, w2, w3, w4, w5, w6, n0, n1, n2, n3, n4, n5, n6, n7, n8]
  simp [vDef, env0, vSeq, vSet, put, frz, thaw, vName, nrm, noMut, noMutL, v2, v1, vC, gIC, gI, gAdd, gMul, cMul, vCons, vCall, g1, gInt, gLen, gAbs, vRet, vRetName, vIfS, tB_, tV, vLst, vTup, lstRv, gridChild, isFlat, dsOf, alOf, mkL, gCat, gCatT, gCatS, gIx, atD, gEq, gIsN, gIsB, gIsi, isiD, vAnd, vOr, vNot, truD, tNot_, tAnd_, tOr_, vNeg, vCallF, frRv, vFor, loopV, gN, iRange1, upTo, rngOk, vComp, compV, compRv, wipeE, iSeq, itemsD, L2.atI, L2.ixN, rowsOf]
end VL

namespace VL
open PySem
/-- the errors made of the rows -/
def foundOf (w0 w1 w2 w3 w4 w5 w6 : Str) (n0 n1 n2 n3 n4 n5 n6 n7 n8 : Int) : List D :=
  [.exc 1 [("index", .int n0), ("place", .str w0)], .exc 2 [("line", .int n1)], .exc 3 [("index", .int n2), ("place", .str w1)], .exc 4 [("reason", .str w2), ("index", .int n3)], .exc 5 [("what", .str w3)], .exc 6 [("needed", .str w4)], .exc 7 [("what", .str w5)],
   .exc 8 [("index", .int n4)], .exc 9 [("kind", .int n5)], .exc 10 [("word", .int n7), ("line", .int n6)], .exc 11 [("what", .str w6)], .exc 12 [("index", .int n8)], .exc 13 [], .exc 14 [], .exc 15 [], .exc 16 [], .exc 17 [], .exc 18 [], .exc 19 [], .exc 20 []]
section
variable (w0 w1 w2 w3 w4 w5 w6 : Str) (n0 n1 n2 n3 n4 n5 n6 n7 n8 : Int)
theorem e_made : c_law_made [.lst (rowsOf w0 w1 w2 w3 w4 w5 w6 n0 n1 n2 n3 n4 n5 n6 n7 n8)] = .ok (.lst (foundOf w0 w1 w2 w3 w4 w5 w6 n0 n1 n2 n3 n4 n5 n6 n7 n8)) 1 := by kernel_rfl
theorem e_read : c_law_read [.lst (foundOf w0 w1 w2 w3 w4 w5 w6 n0 n1 n2 n3 n4 n5 n6 n7 n8)] = .ok (.lst (rowsOf w0 w1 w2 w3 w4 w5 w6 n0 n1 n2 n3 n4 n5 n6 n7 n8)) 2 := by kernel_rfl
/-- a row of 20 with True at k -/
def oneAt (k : Nat) : List D := (List.range 20).map fun j => .bl (decide (j = k))
theorem e_classes (k : Nat) (hk : k < 20) (fs : List (Str × D)) : c_law_classes_of [.exc (k + 1) fs] = .ok (.lst (oneAt k)) 2 := by
  match k, hk with
  | 0, _ => kernel_rfl
  | 1, _ => kernel_rfl
  | 2, _ => kernel_rfl
  | 3, _ => kernel_rfl
  | 4, _ => kernel_rfl
  | 5, _ => kernel_rfl
  | 6, _ => kernel_rfl
  | 7, _ => kernel_rfl
  | 8, _ => kernel_rfl
  | 9, _ => kernel_rfl
  | 10, _ => kernel_rfl
  | 11, _ => kernel_rfl
  | 12, _ => kernel_rfl
  | 13, _ => kernel_rfl
  | 14, _ => kernel_rfl
  | 15, _ => kernel_rfl
  | 16, _ => kernel_rfl
  | 17, _ => kernel_rfl
  | 18, _ => kernel_rfl
  | 19, _ => kernel_rfl
  | n + 20, h => exact absurd h (by omega)
end
end VL

namespace VL
open PySem
theorem seq_nx {f g : VS} {env e : Ev} {r : Rs} (h : f env = .nx e) (h2 : g e = r) : vSeq f g env = r := by unfold vSeq; rw [h]; exact h2
theorem seq_ret {f g : VS} {env : Ev} {d : D} {l : Nat} (h : f env = .ret d l) : vSeq f g env = .ret d l := by unfold vSeq; rw [h]
theorem def_ret {N : Nat} {body : VS} {ds : List D} {d : D} {l : Nat} (h : body (env0 N ds) = .ret d l) : vDef N body ds = .ok d l := by unfold vDef; rw [h]
theorem for_nx {it : VI} {g : VG} {body : VS} {env e : Ev} {ds : List D} {al : List Nat} (h : it env = some (ds, al)) (h2 : loopV g body ds (frz al env) = .nx e) : vFor it g body env = .nx e := by unfold vFor; rw [h]; exact h2
/-- plain data, at most so deep -/
def pl : Nat → D → Prop
  | 0, _ => False
  | _ + 1, .non => True
  | _ + 1, .bl _ => True
  | _ + 1, .int _ => True
  | _ + 1, .str s => PyData.strOk s = true
  | n + 1, .lst xs => xs.length ≤ 1000000 ∧ ∀ x ∈ xs, pl n x
  | n + 1, .tup xs => xs.length ≤ 1000000 ∧ ∀ x ∈ xs, pl n x
  | _ + 1, _ => False
theorem same_loop {rec : CF} {xs : List D} {d : D} (hd : d = .lst xs ∨ d = .tup xs) (hr : ∀ x ∈ xs, rec [x, x] = .ok (.bl true) 2) : ∀ (m : Nat) (i : Int) (s2 : Slot), 0 ≤ i → i + m ≤ xs.length → ∃ s3,
    loopV (gN 2) (vIfS (tNot_ (tV (vCallF rec (vCons (v2 gIx (vName 0) (vName 2)) (vCons (v2 gIx (vName 1) (vName 2)) (fun _ => some [])))))) (vRet (vC (.bl false))) ((fun e => .nx e))) (upTo i 1 m) [some (0, d), some (0, d), s2] = .nx [some (0, d), some (0, d), s3]
  | 0, i, s2, h1, h2 => ⟨s2, rfl⟩
  | m + 1, i, s2, h1, h2 => by
    obtain ⟨x, e, hx⟩ := atI_ok (p := xs) h1 (by omega)
    obtain ⟨s3, ih⟩ := same_loop hd hr m (i + 1) (some (0, .int i)) (by omega) (by omega)
    refine ⟨s3, ?_⟩
    rw [upTo, loopV]
    have hb : (vIfS (tNot_ (tV (vCallF rec (vCons (v2 gIx (vName 0) (vName 2)) (vCons (v2 gIx (vName 1) (vName 2)) (fun _ => some [])))))) (vRet (vC (.bl false))) ((fun e => .nx e))) [some (0, d), some (0, d), some (0, .int i)] = .nx [some (0, d), some (0, d), some (0, .int i)] := by
      have hrx := hr x hx
      rcases hd with rfl | rfl <;> cases hn : noMut x <;> cases hm : noMutL xs <;> simp [vDef, env0, vSeq, vSet, put, frz, thaw, vName, nrm, noMut, noMutL, v2, v1, vC, gIC, gI, gAdd, gMul, cMul, vCons, vCall, g1, gInt, gLen, gAbs, vRet, vRetName, vIfS, tB_, tV, vLst, vTup, lstRv, gridChild, isFlat, dsOf, alOf, mkL, gCat, gCatT, gCatS, gIx, atD, gEq, gIsN, gIsB, gIsi, isiD, vAnd, vOr, vNot, truD, tNot_, tAnd_, tOr_, vNeg, vCallF, frRv, vFor, loopV, gN, iRange1, upTo, rngOk, vComp, compV, compRv, wipeE, iSeq, itemsD, e, hn, hm, hrx]
    have hg : gN 2 (.int i) [some (0, d), some (0, d), s2] = some [some (0, d), some (0, d), some (0, .int i)] := by simp [vDef, env0, vSeq, vSet, put, frz, thaw, vName, nrm, noMut, noMutL, v2, v1, vC, gIC, gI, gAdd, gMul, cMul, vCons, vCall, g1, gInt, gLen, gAbs, vRet, vRetName, vIfS, tB_, tV, vLst, vTup, lstRv, gridChild, isFlat, dsOf, alOf, mkL, gCat, gCatT, gCatS, gIx, atD, gEq, gIsN, gIsB, gIsi, isiD, vAnd, vOr, vNot, truD, tNot_, tAnd_, tOr_, vNeg, vCallF, frRv, vFor, loopV, gN, iRange1, upTo, rngOk, vComp, compV, compRv, wipeE, iSeq, itemsD]
    rw [hg]
    dsimp only
    rw [hb]
    exact ih
theorem e_same : ∀ (n : Nat) (d : D), pl n d → c_law_same n [d, d] = .ok (.bl true) 2
  | 0, d, h => h.elim
  | n + 1, .non, h => by kernel_rfl
  | n + 1, .bl true, h => by kernel_rfl
  | n + 1, .bl false, h => by kernel_rfl
  | n + 1, .int i, h => by
    rw [c_law_same]
    simp [vDef, env0, vSeq, vSet, put, frz, thaw, vName, nrm, noMut, noMutL, v2, v1, vC, gIC, gI, gAdd, gMul, cMul, vCons, vCall, g1, gInt, gLen, gAbs, vRet, vRetName, vIfS, tB_, tV, vLst, vTup, lstRv, gridChild, isFlat, dsOf, alOf, mkL, gCat, gCatT, gCatS, gIx, atD, gEq, gIsN, gIsB, gIsi, isiD, vAnd, vOr, vNot, truD, tNot_, tAnd_, tOr_, vNeg, vCallF, frRv, vFor, loopV, gN, iRange1, upTo, rngOk, vComp, compV, compRv, wipeE, iSeq, itemsD, b_law_same, eqD_int]
  | n + 1, .str s, h => by
    rw [c_law_same]
    have hs : PyData.strOk s = true := h
    simp [vDef, env0, vSeq, vSet, put, frz, thaw, vName, nrm, noMut, noMutL, v2, v1, vC, gIC, gI, gAdd, gMul, cMul, vCons, vCall, g1, gInt, gLen, gAbs, vRet, vRetName, vIfS, tB_, tV, vLst, vTup, lstRv, gridChild, isFlat, dsOf, alOf, mkL, gCat, gCatT, gCatS, gIx, atD, gEq, gIsN, gIsB, gIsi, isiD, vAnd, vOr, vNot, truD, tNot_, tAnd_, tOr_, vNeg, vCallF, frRv, vFor, loopV, gN, iRange1, upTo, rngOk, vComp, compV, compRv, wipeE, iSeq, itemsD, b_law_same, eqD_str hs hs]
  | n + 1, .lst xs, h => by
    rw [c_law_same]
    obtain ⟨h1, h2⟩ : xs.length ≤ 1000000 ∧ ∀ x ∈ xs, pl n x := h
    refine def_ret ?_
    obtain ⟨s3, hl⟩ := same_loop (rec := c_law_same n) (.inl rfl) (fun x hx => e_same n x (h2 x hx)) xs.length 0 none (by omega) (by omega)
    show b_law_same (c_law_same n) [some (0, .lst xs), some (0, .lst xs), none] = _
    unfold b_law_same
    have hc1 : -16777216 ≤ (xs.length : Int) := by omega
    have hc2 : (xs.length : Int) ≤ 16777216 := by omega
    cases hm : noMutL xs <;>
    (refine seq_nx (e := [some (0, .lst xs), some (0, .lst xs), none]) (by simp [vDef, env0, vSeq, vSet, put, frz, thaw, vName, nrm, noMut, noMutL, v2, v1, vC, gIC, gI, gAdd, gMul, cMul, vCons, vCall, g1, gInt, gLen, gAbs, vRet, vRetName, vIfS, tB_, tV, vLst, vTup, lstRv, gridChild, isFlat, dsOf, alOf, mkL, gCat, gCatT, gCatS, gIx, atD, gEq, gIsN, gIsB, gIsi, isiD, vAnd, vOr, vNot, truD, tNot_, tAnd_, tOr_, vNeg, vCallF, frRv, vFor, loopV, gN, iRange1, upTo, rngOk, vComp, compV, compRv, wipeE, iSeq, itemsD, hm]) ?_
     refine seq_nx (e := [some (0, .lst xs), some (0, .lst xs), none]) (by simp [vDef, env0, vSeq, vSet, put, frz, thaw, vName, nrm, noMut, noMutL, v2, v1, vC, gIC, gI, gAdd, gMul, cMul, vCons, vCall, g1, gInt, gLen, gAbs, vRet, vRetName, vIfS, tB_, tV, vLst, vTup, lstRv, gridChild, isFlat, dsOf, alOf, mkL, gCat, gCatT, gCatS, gIx, atD, gEq, gIsN, gIsB, gIsi, isiD, vAnd, vOr, vNot, truD, tNot_, tAnd_, tOr_, vNeg, vCallF, frRv, vFor, loopV, gN, iRange1, upTo, rngOk, vComp, compV, compRv, wipeE, iSeq, itemsD, hm]) ?_
     refine seq_nx (e := [some (0, .lst xs), some (0, .lst xs), none]) (by simp [vDef, env0, vSeq, vSet, put, frz, thaw, vName, nrm, noMut, noMutL, v2, v1, vC, gIC, gI, gAdd, gMul, cMul, vCons, vCall, g1, gInt, gLen, gAbs, vRet, vRetName, vIfS, tB_, tV, vLst, vTup, lstRv, gridChild, isFlat, dsOf, alOf, mkL, gCat, gCatT, gCatS, gIx, atD, gEq, gIsN, gIsB, gIsi, isiD, vAnd, vOr, vNot, truD, tNot_, tAnd_, tOr_, vNeg, vCallF, frRv, vFor, loopV, gN, iRange1, upTo, rngOk, vComp, compV, compRv, wipeE, iSeq, itemsD, hm]) ?_
     refine seq_nx (e := [some (0, .lst xs), some (0, .lst xs), none]) (by simp [vDef, env0, vSeq, vSet, put, frz, thaw, vName, nrm, noMut, noMutL, v2, v1, vC, gIC, gI, gAdd, gMul, cMul, vCons, vCall, g1, gInt, gLen, gAbs, vRet, vRetName, vIfS, tB_, tV, vLst, vTup, lstRv, gridChild, isFlat, dsOf, alOf, mkL, gCat, gCatT, gCatS, gIx, atD, gEq, gIsN, gIsB, gIsi, isiD, vAnd, vOr, vNot, truD, tNot_, tAnd_, tOr_, vNeg, vCallF, frRv, vFor, loopV, gN, iRange1, upTo, rngOk, vComp, compV, compRv, wipeE, iSeq, itemsD, hm]) ?_
     refine seq_nx (e := [some (0, .lst xs), some (0, .lst xs), none]) (by simp [vDef, env0, vSeq, vSet, put, frz, thaw, vName, nrm, noMut, noMutL, v2, v1, vC, gIC, gI, gAdd, gMul, cMul, vCons, vCall, g1, gInt, gLen, gAbs, vRet, vRetName, vIfS, tB_, tV, vLst, vTup, lstRv, gridChild, isFlat, dsOf, alOf, mkL, gCat, gCatT, gCatS, gIx, atD, gEq, gIsN, gIsB, gIsi, isiD, vAnd, vOr, vNot, truD, tNot_, tAnd_, tOr_, vNeg, vCallF, frRv, vFor, loopV, gN, iRange1, upTo, rngOk, vComp, compV, compRv, wipeE, iSeq, itemsD, hm]) ?_
     refine seq_nx (e := [some (0, .lst xs), some (0, .lst xs), none]) (by simp [vDef, env0, vSeq, vSet, put, frz, thaw, vName, nrm, noMut, noMutL, v2, v1, vC, gIC, gI, gAdd, gMul, cMul, vCons, vCall, g1, gInt, gLen, gAbs, vRet, vRetName, vIfS, tB_, tV, vLst, vTup, lstRv, gridChild, isFlat, dsOf, alOf, mkL, gCat, gCatT, gCatS, gIx, atD, gEq, gIsN, gIsB, gIsi, isiD, vAnd, vOr, vNot, truD, tNot_, tAnd_, tOr_, vNeg, vCallF, frRv, vFor, loopV, gN, iRange1, upTo, rngOk, vComp, compV, compRv, wipeE, iSeq, itemsD, hm, eqD_int]) ?_
     refine seq_nx (for_nx (ds := upTo 0 1 xs.length) (al := []) (by simp [vDef, env0, vSeq, vSet, put, frz, thaw, vName, nrm, noMut, noMutL, v2, v1, vC, gIC, gI, gAdd, gMul, cMul, vCons, vCall, g1, gInt, gLen, gAbs, vRet, vRetName, vIfS, tB_, tV, vLst, vTup, lstRv, gridChild, isFlat, dsOf, alOf, mkL, gCat, gCatT, gCatS, gIx, atD, gEq, gIsN, gIsB, gIsi, isiD, vAnd, vOr, vNot, truD, tNot_, tAnd_, tOr_, vNeg, vCallF, frRv, vFor, loopV, gN, iRange1, upTo, rngOk, vComp, compV, compRv, wipeE, iSeq, itemsD, hm, hc1, hc2]) hl) rfl)
  | n + 1, .tup xs, h => by
    rw [c_law_same]
    obtain ⟨h1, h2⟩ : xs.length ≤ 1000000 ∧ ∀ x ∈ xs, pl n x := h
    refine def_ret ?_
    obtain ⟨s3, hl⟩ := same_loop (rec := c_law_same n) (.inr rfl) (fun x hx => e_same n x (h2 x hx)) xs.length 0 none (by omega) (by omega)
    show b_law_same (c_law_same n) [some (0, .tup xs), some (0, .tup xs), none] = _
    unfold b_law_same
    have hc1 : -16777216 ≤ (xs.length : Int) := by omega
    have hc2 : (xs.length : Int) ≤ 16777216 := by omega
    cases hm : noMutL xs <;>
    (refine seq_nx (e := [some (0, .tup xs), some (0, .tup xs), none]) (by simp [vDef, env0, vSeq, vSet, put, frz, thaw, vName, nrm, noMut, noMutL, v2, v1, vC, gIC, gI, gAdd, gMul, cMul, vCons, vCall, g1, gInt, gLen, gAbs, vRet, vRetName, vIfS, tB_, tV, vLst, vTup, lstRv, gridChild, isFlat, dsOf, alOf, mkL, gCat, gCatT, gCatS, gIx, atD, gEq, gIsN, gIsB, gIsi, isiD, vAnd, vOr, vNot, truD, tNot_, tAnd_, tOr_, vNeg, vCallF, frRv, vFor, loopV, gN, iRange1, upTo, rngOk, vComp, compV, compRv, wipeE, iSeq, itemsD, hm]) ?_
     refine seq_nx (e := [some (0, .tup xs), some (0, .tup xs), none]) (by simp [vDef, env0, vSeq, vSet, put, frz, thaw, vName, nrm, noMut, noMutL, v2, v1, vC, gIC, gI, gAdd, gMul, cMul, vCons, vCall, g1, gInt, gLen, gAbs, vRet, vRetName, vIfS, tB_, tV, vLst, vTup, lstRv, gridChild, isFlat, dsOf, alOf, mkL, gCat, gCatT, gCatS, gIx, atD, gEq, gIsN, gIsB, gIsi, isiD, vAnd, vOr, vNot, truD, tNot_, tAnd_, tOr_, vNeg, vCallF, frRv, vFor, loopV, gN, iRange1, upTo, rngOk, vComp, compV, compRv, wipeE, iSeq, itemsD, hm]) ?_
     refine seq_nx (e := [some (0, .tup xs), some (0, .tup xs), none]) (by simp [vDef, env0, vSeq, vSet, put, frz, thaw, vName, nrm, noMut, noMutL, v2, v1, vC, gIC, gI, gAdd, gMul, cMul, vCons, vCall, g1, gInt, gLen, gAbs, vRet, vRetName, vIfS, tB_, tV, vLst, vTup, lstRv, gridChild, isFlat, dsOf, alOf, mkL, gCat, gCatT, gCatS, gIx, atD, gEq, gIsN, gIsB, gIsi, isiD, vAnd, vOr, vNot, truD, tNot_, tAnd_, tOr_, vNeg, vCallF, frRv, vFor, loopV, gN, iRange1, upTo, rngOk, vComp, compV, compRv, wipeE, iSeq, itemsD, hm]) ?_
     refine seq_nx (e := [some (0, .tup xs), some (0, .tup xs), none]) (by simp [vDef, env0, vSeq, vSet, put, frz, thaw, vName, nrm, noMut, noMutL, v2, v1, vC, gIC, gI, gAdd, gMul, cMul, vCons, vCall, g1, gInt, gLen, gAbs, vRet, vRetName, vIfS, tB_, tV, vLst, vTup, lstRv, gridChild, isFlat, dsOf, alOf, mkL, gCat, gCatT, gCatS, gIx, atD, gEq, gIsN, gIsB, gIsi, isiD, vAnd, vOr, vNot, truD, tNot_, tAnd_, tOr_, vNeg, vCallF, frRv, vFor, loopV, gN, iRange1, upTo, rngOk, vComp, compV, compRv, wipeE, iSeq, itemsD, hm]) ?_
     refine seq_nx (e := [some (0, .tup xs), some (0, .tup xs), none]) (by simp [vDef, env0, vSeq, vSet, put, frz, thaw, vName, nrm, noMut, noMutL, v2, v1, vC, gIC, gI, gAdd, gMul, cMul, vCons, vCall, g1, gInt, gLen, gAbs, vRet, vRetName, vIfS, tB_, tV, vLst, vTup, lstRv, gridChild, isFlat, dsOf, alOf, mkL, gCat, gCatT, gCatS, gIx, atD, gEq, gIsN, gIsB, gIsi, isiD, vAnd, vOr, vNot, truD, tNot_, tAnd_, tOr_, vNeg, vCallF, frRv, vFor, loopV, gN, iRange1, upTo, rngOk, vComp, compV, compRv, wipeE, iSeq, itemsD, hm]) ?_
     refine seq_nx (e := [some (0, .tup xs), some (0, .tup xs), none]) (by simp [vDef, env0, vSeq, vSet, put, frz, thaw, vName, nrm, noMut, noMutL, v2, v1, vC, gIC, gI, gAdd, gMul, cMul, vCons, vCall, g1, gInt, gLen, gAbs, vRet, vRetName, vIfS, tB_, tV, vLst, vTup, lstRv, gridChild, isFlat, dsOf, alOf, mkL, gCat, gCatT, gCatS, gIx, atD, gEq, gIsN, gIsB, gIsi, isiD, vAnd, vOr, vNot, truD, tNot_, tAnd_, tOr_, vNeg, vCallF, frRv, vFor, loopV, gN, iRange1, upTo, rngOk, vComp, compV, compRv, wipeE, iSeq, itemsD, hm, eqD_int]) ?_
     refine seq_nx (for_nx (ds := upTo 0 1 xs.length) (al := []) (by simp [vDef, env0, vSeq, vSet, put, frz, thaw, vName, nrm, noMut, noMutL, v2, v1, vC, gIC, gI, gAdd, gMul, cMul, vCons, vCall, g1, gInt, gLen, gAbs, vRet, vRetName, vIfS, tB_, tV, vLst, vTup, lstRv, gridChild, isFlat, dsOf, alOf, mkL, gCat, gCatT, gCatS, gIx, atD, gEq, gIsN, gIsB, gIsi, isiD, vAnd, vOr, vNot, truD, tNot_, tAnd_, tOr_, vNeg, vCallF, frRv, vFor, loopV, gN, iRange1, upTo, rngOk, vComp, compV, compRv, wipeE, iSeq, itemsD, hm, hc1, hc2]) hl) rfl)
  | n + 1, .dic kvs, h => h.elim
  | n + 1, .ins c fs, h => h.elim
  | n + 1, .scr ns, h => h.elim
  | n + 1, .exc c fs, h => h.elim
end VL

namespace VL
open PySem
section
variable (w0 w1 w2 w3 w4 w5 w6 : Str) (n0 n1 n2 n3 n4 n5 n6 n7 n8 : Int)
theorem pl_rows (k0 : PyData.strOk w0 = true) (k1 : PyData.strOk w1 = true) (k2 : PyData.strOk w2 = true) (k3 : PyData.strOk w3 = true) (k4 : PyData.strOk w4 = true) (k5 : PyData.strOk w5 = true) (k6 : PyData.strOk w6 = true) :
    pl 8 (.lst (rowsOf w0 w1 w2 w3 w4 w5 w6 n0 n1 n2 n3 n4 n5 n6 n7 n8)) := by
  simp [pl, rowsOf, k0, k1, k2, k3, k4, k5, k6]
theorem e_right (k0 : PyData.strOk w0 = true) (k1 : PyData.strOk w1 = true) (k2 : PyData.strOk w2 = true) (k3 : PyData.strOk w3 = true) (k4 : PyData.strOk w4 = true) (k5 : PyData.strOk w5 = true) (k6 : PyData.strOk w6 = true) :
    c_law_right [.lst (foundOf w0 w1 w2 w3 w4 w5 w6 n0 n1 n2 n3 n4 n5 n6 n7 n8), .lst (rowsOf w0 w1 w2 w3 w4 w5 w6 n0 n1 n2 n3 n4 n5 n6 n7 n8)] = .ok (.bl true) 2 := by
  have hs := e_same 8 _ (pl_rows w0 w1 w2 w3 w4 w5 w6 n0 n1 n2 n3 n4 n5 n6 n7 n8 k0 k1 k2 k3 k4 k5 k6)
  refine def_ret ?_
  show b_law_right [some (0, .lst (foundOf w0 w1 w2 w3 w4 w5 w6 n0 n1 n2 n3 n4 n5 n6 n7 n8)), some (0, .lst (rowsOf w0 w1 w2 w3 w4 w5 w6 n0 n1 n2 n3 n4 n5 n6 n7 n8)), none, none] = _
  unfold b_law_right
  refine seq_nx (e := [some (0, .lst (foundOf w0 w1 w2 w3 w4 w5 w6 n0 n1 n2 n3 n4 n5 n6 n7 n8)), some (0, .lst (rowsOf w0 w1 w2 w3 w4 w5 w6 n0 n1 n2 n3 n4 n5 n6 n7 n8)), none, none]) ?_ (by kernel_rfl)
  simp [vDef, env0, vSeq, vSet, put, frz, thaw, vName, nrm, noMut, noMutL, v2, v1, vC, gIC, gI, gAdd, gMul, cMul, vCons, vCall, g1, gInt, gLen, gAbs, vRet, vRetName, vIfS, tB_, tV, vLst, vTup, lstRv, gridChild, isFlat, dsOf, alOf, mkL, gCat, gCatT, gCatS, gIx, atD, gEq, gIsN, gIsB, gIsi, isiD, vAnd, vOr, vNot, truD, tNot_, tAnd_, tOr_, vNeg, vCallF, frRv, vFor, loopV, gN, iRange1, upTo, rngOk, vComp, compV, compRv, wipeE, iSeq, itemsD, e_read, hs]
end
/-- the law from a pool -/
theorem e_law {ns : List Int} {p : List D} {l : Nat} (hp : c_law_pool [.scr ns, .int 60] = .ok (.lst p) l) (h : Pool 60 p) : ∃ l, c_law [.scr ns] = .ok (.bl true) l := by
  have f1 := e_fields h (a := 0) (by decide) (by decide)
  have f2 := e_fields h (a := 30) (by decide) (by decide)
  have W : ∀ i : Int, 0 ≤ i → i < 60 → PyData.strOk (wordOf p i) = true := fun i h1 h2 => (e_word' h h1 (by simpa using h2)).2
  have r1 := e_right (wordOf p 0) (wordOf p (0 + 1)) (wordOf p (0 + 2)) (wordOf p (0 + 3)) (wordOf p (0 + 4)) (wordOf p (0 + 5)) (wordOf p (0 + 6))
    (numOf p (0 + 7)) (numOf p (0 + 7 + 2)) (numOf p (0 + 7 + 4)) (numOf p (0 + 7 + 6)) (numOf p (0 + 7 + 8)) (numOf p (0 + 7 + 10)) (numOf p (0 + 7 + 12)) (numOf p (0 + 7 + 14)) (numOf p (0 + 7 + 16))
    (W _ (by decide) (by decide)) (W _ (by decide) (by decide)) (W _ (by decide) (by decide)) (W _ (by decide) (by decide)) (W _ (by decide) (by decide)) (W _ (by decide) (by decide)) (W _ (by decide) (by decide))
  have r2 := e_right (wordOf p 30) (wordOf p (30 + 1)) (wordOf p (30 + 2)) (wordOf p (30 + 3)) (wordOf p (30 + 4)) (wordOf p (30 + 5)) (wordOf p (30 + 6))
    (numOf p (30 + 7)) (numOf p (30 + 7 + 2)) (numOf p (30 + 7 + 4)) (numOf p (30 + 7 + 6)) (numOf p (30 + 7 + 8)) (numOf p (30 + 7 + 10)) (numOf p (30 + 7 + 12)) (numOf p (30 + 7 + 14)) (numOf p (30 + 7 + 16))
    (W _ (by decide) (by decide)) (W _ (by decide) (by decide)) (W _ (by decide) (by decide)) (W _ (by decide) (by decide)) (W _ (by decide) (by decide)) (W _ (by decide) (by decide)) (W _ (by decide) (by decide))
  have m1 := e_made (wordOf p 0) (wordOf p (0 + 1)) (wordOf p (0 + 2)) (wordOf p (0 + 3)) (wordOf p (0 + 4)) (wordOf p (0 + 5)) (wordOf p (0 + 6))
    (numOf p (0 + 7)) (numOf p (0 + 7 + 2)) (numOf p (0 + 7 + 4)) (numOf p (0 + 7 + 6)) (numOf p (0 + 7 + 8)) (numOf p (0 + 7 + 10)) (numOf p (0 + 7 + 12)) (numOf p (0 + 7 + 14)) (numOf p (0 + 7 + 16))
  have m2 := e_made (wordOf p 30) (wordOf p (30 + 1)) (wordOf p (30 + 2)) (wordOf p (30 + 3)) (wordOf p (30 + 4)) (wordOf p (30 + 5)) (wordOf p (30 + 6))
    (numOf p (30 + 7)) (numOf p (30 + 7 + 2)) (numOf p (30 + 7 + 4)) (numOf p (30 + 7 + 6)) (numOf p (30 + 7 + 8)) (numOf p (30 + 7 + 10)) (numOf p (30 + 7 + 12)) (numOf p (30 + 7 + 14)) (numOf p (30 + 7 + 16))
  generalize (rowsOf (wordOf p 0) _ _ _ _ _ _ _ _ _ _ _ _ _ _ _) = R1 at f1 r1 m1
  generalize (rowsOf (wordOf p 30) _ _ _ _ _ _ _ _ _ _ _ _ _ _ _) = R2 at f2 r2 m2
  generalize (foundOf (wordOf p 0) _ _ _ _ _ _ _ _ _ _ _ _ _ _ _) = F1 at r1 m1
  generalize (foundOf (wordOf p 30) _ _ _ _ _ _ _ _ _ _ _ _ _ _ _) = F2 at r2 m2
  refine ⟨2, ?_⟩
  simp [vDef, env0, vSeq, vSet, put, frz, thaw, vName, nrm, noMut, noMutL, v2, v1, vC, gIC, gI, gAdd, gMul, cMul, vCons, vCall, g1, gInt, gLen, gAbs, vRet, vRetName, vIfS, tB_, tV, vLst, vTup, lstRv, gridChild, isFlat, dsOf, alOf, mkL, gCat, gCatT, gCatS, gIx, atD, gEq, gIsN, gIsB, gIsi, isiD, vAnd, vOr, vNot, truD, tNot_, tAnd_, tOr_, vNeg, vCallF, frRv, vFor, loopV, gN, iRange1, upTo, rngOk, vComp, compV, compRv, wipeE, iSeq, itemsD, c_law, b_law, hp, f1, f2, m1, m2, r1, r2]
end VL

namespace VL
open PySem
/-! ### blocks and loops, read for a promise of their end -/
theorem seqP {P : Rs → Prop} {f g : VS} {env e : Ev} (h : f env = .nx e) (h2 : P (g e)) : P (vSeq f g env) := by unfold vSeq; rw [h]; exact h2
theorem seqQ {P : Rs → Prop} {f g : VS} {env : Ev} (h : ∃ e, f env = .nx e ∧ P (g e)) : P (vSeq f g env) := by obtain ⟨e, h, h2⟩ := h; exact seqP h h2
theorem loop_ix {g : VG} {body : VS} (I : Nat → Ev → Prop) : ∀ (ds : List D) (k : Nat), (∀ j d e, ds[j]? = some d → I (k + j) e → ∃ e1, g d e = some e1 ∧ ∃ e2, body e1 = .nx e2 ∧ I (k + j + 1) e2) → ∀ e, I k e → ∃ e', loopV g body ds e = .nx e' ∧ I (k + ds.length) e'
  | [], k, hs, e, h => ⟨e, rfl, h⟩
  | d :: ds, k, hs, e, h => by
    obtain ⟨e1, h1, e2, h2, h3⟩ := hs 0 d e rfl h
    obtain ⟨e', h4, h5⟩ := loop_ix I ds (k + 1) (fun j d e hj hi => by
      have := hs (j + 1) d e (by simpa using hj) (by have : k + (j + 1) = k + 1 + j := by omega
                                                     rw [this]; exact hi)
      have e1 : k + (j + 1) + 1 = k + 1 + j + 1 := by omega
      rw [e1] at this
      exact this) e2 h3
    refine ⟨e', ?_, by have e1 : k + (d :: ds).length = k + 1 + ds.length := by rw [List.length_cons]; omega
                       rw [e1]; exact h5⟩
    rw [loopV, h1]
    dsimp only
    rw [h2]
    exact h4
theorem forI {it : VI} {g : VG} {body : VS} {env : Ev} {ds : List D} {al : List Nat} (I : Nat → Ev → Prop) (h : it env = some (ds, al)) (h0 : I 0 (frz al env))
    (hs : ∀ j d e, ds[j]? = some d → I j e → ∃ e1, g d e = some e1 ∧ ∃ e2, body e1 = .nx e2 ∧ I (j + 1) e2) : ∃ e, vFor it g body env = .nx e ∧ I ds.length e := by
  obtain ⟨e', h1, h2⟩ := loop_ix I ds 0 (fun j d e hj hi => by
    rw [Nat.zero_add] at hi ⊢
    exact hs j d e hj hi) _ h0
  rw [Nat.zero_add] at h2
  exact ⟨e', by unfold vFor; rw [h]; exact h1, h2⟩
theorem ifT {t : VT} {a b : VS} {env : Ev} (h : t env = some true) : vIfS t a b env = a env := by unfold vIfS; rw [h]
theorem ifF {t : VT} {a b : VS} {env : Ev} (h : t env = some false) : vIfS t a b env = b env := by unfold vIfS; rw [h]
theorem upTo_at {c i : Int} {n j : Nat} {d : D} (h : (upTo i c n)[j]? = some d) : j < n ∧ d = .int (i + j * c) := by
  have hl : j < n := by
    have := (List.getElem?_eq_some_iff.mp h).1
    rwa [upTo_length] at this
  rw [upTo_get c n j i hl] at h
  exact ⟨hl, by cases h; rfl⟩
theorem noMutL_ints (ns : List Int) : noMutL (ns.map D.int) = true := noMut_ints ns
theorem toPyL_ints : ∀ ns : List Int, toPyL (ns.map D.int) = some (ns.map PyData.int)
  | [] => rfl
  | n :: ns => by rw [List.map_cons, toPyL, toPy]; dsimp only; rw [toPyL_ints ns]; rfl
theorem eqD_nil (ns : List Int) : eqD (.lst (ns.map D.int)) (.lst []) = some (decide (ns = [])) := by
  unfold eqD
  rw [toPy, toPyL_ints, toPy, toPyL]
  dsimp only
  rw [PySem.W.ke_shaped_ints]
  cases ns with
  | nil => rfl
  | cons n ns => simp [PyData.eqv, PyData.eqvAll, SeqAt.shaped, PyData.canLay0, PyData.canLayAll0, PyData.depth, PyData.depthAll]
/-- a row of numbers from 0 to 999 -/
def Row (d : D) : Prop := ∃ n p, d = .lst p ∧ n ≤ 90 ∧ Pool n p
theorem comp_abs (e0 : Ev) (h : 3 < e0.length) : ∀ cs : List Int, compV (gN 3) (fun _ => some true) (vCall (g1 gAbs) (vCons (vCall (g1 gInt) (vCons (vName 3) (fun _ => some []))) (fun _ => some []))) e0 (cs.map D.int) = some (cs.map fun n => ⟨.int (if n < 0 then -n else n), 2, []⟩)
  | [] => rfl
  | c :: cs => by
    rw [List.map_cons, compV, comp_abs e0 h cs]
    have hg : gN 3 (.int c) e0 = some (e0.set 3 (some (0, .int c))) := by unfold gN; rw [if_pos h]
    rw [hg]
    have : (e0.set 3 (some (0, D.int c)))[3]? = some (some (0, .int c)) := List.getElem?_set_self h
    simp [vCall, vCons, vName, this, nrm, noMut, g1, gInt, gAbs]
theorem rv_all {cs : List Int} {f : Int → Int} {n : Nat} : compRv n (cs.map fun c => ⟨.int (f c), 2, []⟩) = ⟨.lst ((cs.map f).map D.int), 2, []⟩ := by
  unfold compRv
  rw [if_pos (by rw [List.all_eq_true]; intro r hr; obtain ⟨c, _, rfl⟩ := List.mem_map.mp hr; rfl)]
  unfold dsOf
  rw [List.map_map, List.map_map]
  rfl
end VL

namespace VL
open PySem
/-- what the pool is made of -/
def I1 (ns cs : List Int) (n : Int) (k : Nat) (e : Ev) : Prop := ∃ s3 fl ds s5 s6 s7 f2, e = [some (0, .scr ns), some (0, .int n), some (f2, .lst (cs.map .int)), s3, some (fl, .lst ds), s5, s6, s7, none, none, none] ∧ 1 ≤ fl ∧ ds.length = k ∧ ∀ d ∈ ds, Row d
theorem row_add {n : Nat} {p : List D} (h : Pool n p) {i : Int} (h1 : 0 ≤ i) (h2 : i < 1000) : Pool (n + 1) (p ++ [.int i]) := by
  refine ⟨by rw [List.length_append, h.1]; rfl, fun d hd => ?_⟩
  rcases List.mem_append.mp hd with hd | hd
  · exact h.2 d hd
  · rw [List.mem_singleton] at hd
    exact ⟨i, hd, h1, h2⟩
theorem pool_nil : Pool 0 [] := ⟨rfl, fun d hd => by cases hd⟩
def I2 (ns cs : List Int) (n c : Int) (ds : List D) (fl f2 : Nat) (k : Nat) (e : Ev) : Prop := ∃ f5 p r s7 m, e = [some (0, .scr ns), some (0, .int n), some (f2, .lst (cs.map .int)), some (0, .int c), some (fl, .lst ds), some (f5, .lst p), some (2, .int r), s7, none, none, none] ∧ 1 ≤ f5 ∧ m ≤ k ∧ Pool m p
theorem pool_digits {ns cs : List Int} {n : Int} (hcs : cs.length ≤ 63) {k : Nat} {d : D} {e : Ev} (hk : k < 63) (hd : ∃ c : Int, d = .int c) (h : I1 ns cs n k e) :
    ∃ e1, gN 3 d e = some e1 ∧ ∃ e2, (vSeq (vSet 5 (vLst (fun _ => some [])))
  (vSeq (vSet 6 (vName 3))
  (vSeq (vIfS (tB_ (v2 (gI fun i j => .bl (decide (j ≤ i))) (vName 3) (v2 (gIC (fun i j => decide (0 ≤ j) && (decide (j ≤ 1000000) && decide (i.natAbs < 2 ^ 64))) fun i j => .int (i ^ j.toNat)) (vC (.int 10)) (vC (.int 18))))) (vFor (iRange1 (vCons (vC (.int 90)) (fun _ => some []))) (gN 7) (vIfS (tB_ (v2 (gI fun i j => .bl (decide (j < i))) (vName 6) (vC (.int 0)))) (vSeq (vApp 5 (v2 (gIC (fun _ j => decide (0 < j)) fun i j => .int (i % j)) (vCall (g1 gInt) (vCons (vName 6) (fun _ => some []))) (vC (.int 1000))))
  (vSet 6 (v2 (gIC (fun _ j => decide (0 < j) && decide (j < 1073741824)) fun i j => .int (i / j)) (vName 6) (vC (.int 1000))))) ((fun e => .nx e)))) ((fun e => .nx e)))
  (vApp 4 (vName 5))))) e1 = .nx e2 ∧ I1 ns cs n (k + 1) e2 := by
  obtain ⟨c, rfl⟩ := hd
  obtain ⟨s3, fl, ds, s5, s6, s7, f2, rfl, h1, h2, h3⟩ := h
  refine ⟨[some (0, .scr ns), some (0, .int n), some (f2, .lst (cs.map .int)), some (0, .int c), some (fl, .lst ds), s5, s6, s7, none, none, none], by simp [vDef, env0, vSeq, vSet, put, frz, thaw, vName, nrm, noMut, noMutL, v2, v1, vC, gIC, gI, gAdd, gMul, cMul, vCons, vCall, g1, gInt, gLen, gAbs, vRet, vRetName, vIfS, tB_, tV, vLst, vTup, lstRv, gridChild, isFlat, dsOf, alOf, mkL, gCat, gCatT, gCatS, gIx, atD, gEq, gIsN, gIsB, gIsi, isiD, vAnd, vOr, vNot, truD, tNot_, tAnd_, tOr_, vNeg, vCallF, frRv, vFor, loopV, gN, iRange1, upTo, rngOk, vComp, compV, compRv, wipeE, iSeq, itemsD], ?_⟩
  refine seqP (P := fun r => ∃ e2, r = .nx e2 ∧ I1 ns cs n (k + 1) e2) (e := [some (0, .scr ns), some (0, .int n), some (f2, .lst (cs.map .int)), some (0, .int c), some (fl, .lst ds), some (2, .lst []), s6, s7, none, none, none]) (by simp [vDef, env0, vSeq, vSet, put, frz, thaw, vName, nrm, noMut, noMutL, v2, v1, vC, gIC, gI, gAdd, gMul, cMul, vCons, vCall, g1, gInt, gLen, gAbs, vRet, vRetName, vIfS, tB_, tV, vLst, vTup, lstRv, gridChild, isFlat, dsOf, alOf, mkL, gCat, gCatT, gCatS, gIx, atD, gEq, gIsN, gIsB, gIsi, isiD, vAnd, vOr, vNot, truD, tNot_, tAnd_, tOr_, vNeg, vCallF, frRv, vFor, loopV, gN, iRange1, upTo, rngOk, vComp, compV, compRv, wipeE, iSeq, itemsD]) ?_
  refine seqP (P := fun r => ∃ e2, r = .nx e2 ∧ I1 ns cs n (k + 1) e2) (e := [some (0, .scr ns), some (0, .int n), some (f2, .lst (cs.map .int)), some (0, .int c), some (fl, .lst ds), some (2, .lst []), some (2, .int c), s7, none, none, none]) (by simp [vDef, env0, vSeq, vSet, put, frz, thaw, vName, nrm, noMut, noMutL, v2, v1, vC, gIC, gI, gAdd, gMul, cMul, vCons, vCall, g1, gInt, gLen, gAbs, vRet, vRetName, vIfS, tB_, tV, vLst, vTup, lstRv, gridChild, isFlat, dsOf, alOf, mkL, gCat, gCatT, gCatS, gIx, atD, gEq, gIsN, gIsB, gIsi, isiD, vAnd, vOr, vNot, truD, tNot_, tAnd_, tOr_, vNeg, vCallF, frRv, vFor, loopV, gN, iRange1, upTo, rngOk, vComp, compV, compRv, wipeE, iSeq, itemsD]) ?_
  refine seqQ (P := fun r => ∃ e2, r = .nx e2 ∧ I1 ns cs n (k + 1) e2) ?_
  have fin : ∀ e, I2 ns cs n c ds fl f2 90 e → ∃ e2, vApp 4 (vName 5) e = .nx e2 ∧ I1 ns cs n (k + 1) e2 := fun e h => by
    obtain ⟨f5, p, r, s7, m, rfl, a1, a2, a3⟩ := h
    have hl : ds.length < 16777216 := by omega
    refine ⟨[some (0, .scr ns), some (0, .int n), some (f2, .lst (cs.map .int)), some (0, .int c), some (1, .lst (ds ++ [.lst p])), some (0, .lst p), some (2, .int r), s7, none, none, none], by simp [vDef, env0, vSeq, vSet, put, frz, thaw, vName, nrm, noMut, noMutL, v2, v1, vC, gIC, gI, gAdd, gMul, cMul, vCons, vCall, g1, gInt, gLen, gAbs, vRet, vRetName, vIfS, tB_, tV, vLst, vTup, lstRv, gridChild, isFlat, dsOf, alOf, mkL, gCat, gCatT, gCatS, gIx, atD, gEq, gIsN, gIsB, gIsi, isiD, vAnd, vOr, vNot, truD, tNot_, tAnd_, tOr_, vNeg, vCallF, frRv, vFor, loopV, gN, iRange1, upTo, rngOk, vComp, compV, compRv, wipeE, iSeq, itemsD, vApp, chg, notIn, h1, hl], ?_⟩
    refine ⟨_, _, _, _, _, _, _, rfl, Nat.le_refl _, by rw [List.length_append, h2]; rfl, fun d hd => ?_⟩
    rcases List.mem_append.mp hd with hd | hd
    · exact h3 d hd
    · rw [List.mem_singleton] at hd
      exact ⟨m, p, hd, a2, a3⟩
  by_cases hc : 1000000000000000000 ≤ c
  · rw [ifT (by simp [vDef, env0, vSeq, vSet, put, frz, thaw, vName, nrm, noMut, noMutL, v2, v1, vC, gIC, gI, gAdd, gMul, cMul, vCons, vCall, g1, gInt, gLen, gAbs, vRet, vRetName, vIfS, tB_, tV, vLst, vTup, lstRv, gridChild, isFlat, dsOf, alOf, mkL, gCat, gCatT, gCatS, gIx, atD, gEq, gIsN, gIsB, gIsi, isiD, vAnd, vOr, vNot, truD, tNot_, tAnd_, tOr_, vNeg, vCallF, frRv, vFor, loopV, gN, iRange1, upTo, rngOk, vComp, compV, compRv, wipeE, iSeq, itemsD, hc])]
    obtain ⟨e, he, hi⟩ := forI (it := iRange1 (vCons (vC (.int 90)) (fun _ => some []))) (g := gN 7) (env := [some (0, .scr ns), some (0, .int n), some (f2, .lst (cs.map .int)), some (0, .int c), some (fl, .lst ds), some (2, .lst []), some (2, .int c), s7, none, none, none])
      (body := (vIfS (tB_ (v2 (gI fun i j => .bl (decide (j < i))) (vName 6) (vC (.int 0)))) (vSeq (vApp 5 (v2 (gIC (fun _ j => decide (0 < j)) fun i j => .int (i % j)) (vCall (g1 gInt) (vCons (vName 6) (fun _ => some []))) (vC (.int 1000))))
        (vSet 6 (v2 (gIC (fun _ j => decide (0 < j) && decide (j < 1073741824)) fun i j => .int (i / j)) (vName 6) (vC (.int 1000))))) ((fun e => .nx e))))
      (I2 ns cs n c ds fl f2) (ds := upTo 0 1 90) (al := []) rfl ⟨2, [], c, s7, 0, rfl, by decide, Nat.le_refl _, pool_nil⟩ (fun j d e hj hi => by
        obtain ⟨hj90, rfl⟩ := upTo_at hj
        obtain ⟨f5, p, r, s7, m, rfl, a1, a2, a3⟩ := hi
        refine ⟨[some (0, .scr ns), some (0, .int n), some (f2, .lst (cs.map .int)), some (0, .int c), some (fl, .lst ds), some (f5, .lst p), some (2, .int r), some (0, .int (0 + j * 1)), none, none, none], by simp [vDef, env0, vSeq, vSet, put, frz, thaw, vName, nrm, noMut, noMutL, v2, v1, vC, gIC, gI, gAdd, gMul, cMul, vCons, vCall, g1, gInt, gLen, gAbs, vRet, vRetName, vIfS, tB_, tV, vLst, vTup, lstRv, gridChild, isFlat, dsOf, alOf, mkL, gCat, gCatT, gCatS, gIx, atD, gEq, gIsN, gIsB, gIsi, isiD, vAnd, vOr, vNot, truD, tNot_, tAnd_, tOr_, vNeg, vCallF, frRv, vFor, loopV, gN, iRange1, upTo, rngOk, vComp, compV, compRv, wipeE, iSeq, itemsD], ?_⟩
        by_cases hr : 0 < r
        · have hl : p.length < 16777216 := by rw [a3.1]; omega
          refine ⟨[some (0, .scr ns), some (0, .int n), some (f2, .lst (cs.map .int)), some (0, .int c), some (fl, .lst ds), some (1, .lst (p ++ [.int (r % 1000)])), some (2, .int (r / 1000)), some (0, .int (0 + j * 1)), none, none, none], by simp [vDef, env0, vSeq, vSet, put, frz, thaw, vName, nrm, noMut, noMutL, v2, v1, vC, gIC, gI, gAdd, gMul, cMul, vCons, vCall, g1, gInt, gLen, gAbs, vRet, vRetName, vIfS, tB_, tV, vLst, vTup, lstRv, gridChild, isFlat, dsOf, alOf, mkL, gCat, gCatT, gCatS, gIx, atD, gEq, gIsN, gIsB, gIsi, isiD, vAnd, vOr, vNot, truD, tNot_, tAnd_, tOr_, vNeg, vCallF, frRv, vFor, loopV, gN, iRange1, upTo, rngOk, vComp, compV, compRv, wipeE, iSeq, itemsD, vApp, chg, notIn, hr, a1, hl], ?_⟩
          exact ⟨1, _, _, _, m + 1, rfl, Nat.le_refl _, by omega, row_add a3 (Int.emod_nonneg _ (by decide)) (Int.emod_lt_of_pos _ (by decide))⟩
        · exact ⟨[some (0, .scr ns), some (0, .int n), some (f2, .lst (cs.map .int)), some (0, .int c), some (fl, .lst ds), some (f5, .lst p), some (2, .int r), some (0, .int (0 + j * 1)), none, none, none], by simp [vDef, env0, vSeq, vSet, put, frz, thaw, vName, nrm, noMut, noMutL, v2, v1, vC, gIC, gI, gAdd, gMul, cMul, vCons, vCall, g1, gInt, gLen, gAbs, vRet, vRetName, vIfS, tB_, tV, vLst, vTup, lstRv, gridChild, isFlat, dsOf, alOf, mkL, gCat, gCatT, gCatS, gIx, atD, gEq, gIsN, gIsB, gIsi, isiD, vAnd, vOr, vNot, truD, tNot_, tAnd_, tOr_, vNeg, vCallF, frRv, vFor, loopV, gN, iRange1, upTo, rngOk, vComp, compV, compRv, wipeE, iSeq, itemsD, vApp, chg, notIn, hr], ⟨f5, p, r, _, m, rfl, a1, by omega, a3⟩⟩)
    rw [upTo_length] at hi
    exact ⟨e, he, fin e hi⟩
  · rw [ifF (by simp [vDef, env0, vSeq, vSet, put, frz, thaw, vName, nrm, noMut, noMutL, v2, v1, vC, gIC, gI, gAdd, gMul, cMul, vCons, vCall, g1, gInt, gLen, gAbs, vRet, vRetName, vIfS, tB_, tV, vLst, vTup, lstRv, gridChild, isFlat, dsOf, alOf, mkL, gCat, gCatT, gCatS, gIx, atD, gEq, gIsN, gIsB, gIsi, isiD, vAnd, vOr, vNot, truD, tNot_, tAnd_, tOr_, vNeg, vCallF, frRv, vFor, loopV, gN, iRange1, upTo, rngOk, vComp, compV, compRv, wipeE, iSeq, itemsD, hc])]
    exact ⟨_, rfl, fin _ ⟨2, [], c, s7, 0, rfl, by decide, by decide, pool_nil⟩⟩
end VL

namespace VL
open PySem
def I3 (ns cs : List Int) (n : Int) (k : Nat) (e : Ev) : Prop := ∃ s3 f4 ds s5 s6 s7 f2 f8 p s9 s10, e = [some (0, .scr ns), some (0, .int n), some (f2, .lst (cs.map .int)), s3, some (f4, .lst ds), s5, s6, s7, some (f8, .lst p), s9, s10] ∧ 1 ≤ f8 ∧ ds.length = cs.length ∧ (∀ d ∈ ds, Row d) ∧ Pool k p
theorem atI_ints {cs : List Int} {i : Int} (h : 0 ≤ i) (h2 : i < cs.length) : ∃ c : Int, L2.atI (cs.map D.int) i = some (.int c) := by
  obtain ⟨d, e, hd⟩ := atI_ok (p := cs.map D.int) h (by rw [List.length_map]; exact h2)
  obtain ⟨c, _, rfl⟩ := List.mem_map.mp hd
  exact ⟨c, e⟩
theorem pool_turn {ns cs : List Int} {n : Int} (hcs : cs.length ≤ 63) (hc0 : 0 < cs.length) {k : Nat} {d : D} {e : Ev} (hk : k < 100000) (hd : d = .int (0 + k * 1)) (h : I3 ns cs n k e) :
    ∃ e1, gN 9 d e = some e1 ∧ ∃ e2, (vSeq (vSet 10 (v2 (gIC (fun _ j => decide (0 < j)) fun i j => .int (i % j)) (vCall (g1 gInt) (vCons (vName 9) (fun _ => some []))) (vCall (g1 gLen) (vCons (vName 2) (fun _ => some [])))))
  (vSeq (vSet 7 (v2 (gIC (fun _ j => decide (0 < j) && decide (j < 1073741824)) fun i j => .int (i / j)) (vName 9) (vCall (g1 gLen) (vCons (vName 2) (fun _ => some [])))))
  (vIfS (tB_ (v2 (gI fun i j => .bl (decide (i < j))) (vName 7) (vCall (g1 gLen) (vCons (v2 gIx (vName 4) (vName 10)) (fun _ => some []))))) (vApp 8 (v2 gIx (v2 gIx (vName 4) (vName 10)) (vName 7))) (vApp 8 (vCallF c_law_mixed (vCons (v2 gAdd (v2 (gIC (fun _ j => decide (0 < j)) fun i j => .int (i % j)) (vCall (g1 gInt) (vCons (v2 gIx (vName 2) (vName 10)) (fun _ => some []))) (vC (.int 1000003))) (v2 gMul (vC (.int 7919)) (vName 10))) (vCons (v2 gAdd (vName 7) (vC (.int 1))) (fun _ => some [])))))))) e1 = .nx e2 ∧ I3 ns cs n (k + 1) e2 := by
  subst hd
  obtain ⟨s3, f4, ds, s5, s6, s7, f2, f8, p, s9, s10, rfl, h1, h2, h3, h4⟩ := h
  have q1 : (0 : Int) < cs.length := by omega
  have q2 : (cs.length : Int) < 1073741824 := by omega
  have hne : cs ≠ [] := by intro z; subst z; exact absurd hc0 (by decide)
  have hi : (0 : Int) + k * 1 = k := by omega
  have a0 : 0 ≤ (k : Int) % cs.length := Int.emod_nonneg _ (by omega)
  have a1 : (k : Int) % cs.length < cs.length := Int.emod_lt_of_pos _ q1
  have b0 : 0 ≤ (k : Int) / cs.length := Int.ediv_nonneg (by omega) (by omega)
  obtain ⟨dr, er, hr⟩ := atI_ok (p := ds) a0 (by rw [h2]; exact a1)
  obtain ⟨m, rw_, rfl, hm, hp⟩ := h3 dr hr
  obtain ⟨c, ec⟩ := atI_ints a0 a1
  have hl : p.length < 16777216 := by rw [h4.1]; omega
  generalize ht : (k : Int) % cs.length = t at a0 a1 er ec
  generalize hu : (k : Int) / cs.length = u at b0
  rw [hi]
  refine ⟨[some (0, .scr ns), some (0, .int n), some (f2, .lst (cs.map .int)), s3, some (f4, .lst ds), s5, s6, s7, some (f8, .lst p), some (0, .int k), s10], by simp [vDef, env0, vSeq, vSet, put, frz, thaw, vName, nrm, noMut, noMutL, v2, v1, vC, gIC, gI, gAdd, gMul, cMul, vCons, vCall, g1, gInt, gLen, gAbs, vRet, vRetName, vIfS, tB_, tV, vLst, vTup, lstRv, gridChild, isFlat, dsOf, alOf, mkL, gCat, gCatT, gCatS, gIx, atD, gEq, gIsN, gIsB, gIsi, isiD, vAnd, vOr, vNot, truD, tNot_, tAnd_, tOr_, vNeg, vCallF, frRv, vFor, loopV, gN, iRange1, upTo, rngOk, vComp, compV, compRv, wipeE, iSeq, itemsD], ?_⟩
  refine seqP (P := fun r => ∃ e2, r = .nx e2 ∧ I3 ns cs n (k + 1) e2) (e := [some (0, .scr ns), some (0, .int n), some (f2, .lst (cs.map .int)), s3, some (f4, .lst ds), s5, s6, s7, some (f8, .lst p), some (0, .int k), some (2, .int t)]) (by simp [vDef, env0, vSeq, vSet, put, frz, thaw, vName, nrm, noMut, noMutL, v2, v1, vC, gIC, gI, gAdd, gMul, cMul, vCons, vCall, g1, gInt, gLen, gAbs, vRet, vRetName, vIfS, tB_, tV, vLst, vTup, lstRv, gridChild, isFlat, dsOf, alOf, mkL, gCat, gCatT, gCatS, gIx, atD, gEq, gIsN, gIsB, gIsi, isiD, vAnd, vOr, vNot, truD, tNot_, tAnd_, tOr_, vNeg, vCallF, frRv, vFor, loopV, gN, iRange1, upTo, rngOk, vComp, compV, compRv, wipeE, iSeq, itemsD, q1, hc0, hne, ht]) ?_
  refine seqP (P := fun r => ∃ e2, r = .nx e2 ∧ I3 ns cs n (k + 1) e2) (e := [some (0, .scr ns), some (0, .int n), some (f2, .lst (cs.map .int)), s3, some (f4, .lst ds), s5, s6, some (2, .int u), some (f8, .lst p), some (0, .int k), some (2, .int t)]) (by simp [vDef, env0, vSeq, vSet, put, frz, thaw, vName, nrm, noMut, noMutL, v2, v1, vC, gIC, gI, gAdd, gMul, cMul, vCons, vCall, g1, gInt, gLen, gAbs, vRet, vRetName, vIfS, tB_, tV, vLst, vTup, lstRv, gridChild, isFlat, dsOf, alOf, mkL, gCat, gCatT, gCatS, gIx, atD, gEq, gIsN, gIsB, gIsi, isiD, vAnd, vOr, vNot, truD, tNot_, tAnd_, tOr_, vNeg, vCallF, frRv, vFor, loopV, gN, iRange1, upTo, rngOk, vComp, compV, compRv, wipeE, iSeq, itemsD, q1, q2, hc0, hne, hu]) ?_
  have fin : ∀ z : Int, 0 ≤ z → z < 1000 → ∃ e2, Rs.nx [some (0, .scr ns), some (0, .int n), some (f2, .lst (cs.map .int)), s3, some (f4, .lst ds), s5, s6, some (2, .int u), some (1, .lst (p ++ [.int z])), some (0, .int k), some (2, .int t)] = .nx e2 ∧ I3 ns cs n (k + 1) e2 := fun z z0 z1 =>
    ⟨_, rfl, _, _, _, _, _, _, _, _, _, _, _, rfl, Nat.le_refl _, h2, h3, row_add h4 z0 z1⟩
  by_cases hlt : u < (rw_.length : Int)
  · rw [ifT (by simp [vDef, env0, vSeq, vSet, put, frz, thaw, vName, nrm, noMut, noMutL, v2, v1, vC, gIC, gI, gAdd, gMul, cMul, vCons, vCall, g1, gInt, gLen, gAbs, vRet, vRetName, vIfS, tB_, tV, vLst, vTup, lstRv, gridChild, isFlat, dsOf, alOf, mkL, gCat, gCatT, gCatS, gIx, atD, gEq, gIsN, gIsB, gIsi, isiD, vAnd, vOr, vNot, truD, tNot_, tAnd_, tOr_, vNeg, vCallF, frRv, vFor, loopV, gN, iRange1, upTo, rngOk, vComp, compV, compRv, wipeE, iSeq, itemsD, er, hlt])]
    obtain ⟨z, ez, z0, z1⟩ := hp.at_ (i := u) b0 (by rw [← hp.1]; exact hlt)
    have e1 : vApp 8 (v2 gIx (v2 gIx (vName 4) (vName 10)) (vName 7)) [some (0, .scr ns), some (0, .int n), some (f2, .lst (cs.map .int)), s3, some (f4, .lst ds), s5, s6, some (2, .int u), some (f8, .lst p), some (0, .int k), some (2, .int t)]
        = .nx [some (0, .scr ns), some (0, .int n), some (f2, .lst (cs.map .int)), s3, some (f4, .lst ds), s5, s6, some (2, .int u), some (1, .lst (p ++ [.int z])), some (0, .int k), some (2, .int t)] := by
      cases hn : noMutL rw_ <;> simp [vDef, env0, vSeq, vSet, put, frz, thaw, vName, nrm, noMut, noMutL, v2, v1, vC, gIC, gI, gAdd, gMul, cMul, vCons, vCall, g1, gInt, gLen, gAbs, vRet, vRetName, vIfS, tB_, tV, vLst, vTup, lstRv, gridChild, isFlat, dsOf, alOf, mkL, gCat, gCatT, gCatS, gIx, atD, gEq, gIsN, gIsB, gIsi, isiD, vAnd, vOr, vNot, truD, tNot_, tAnd_, tOr_, vNeg, vCallF, frRv, vFor, loopV, gN, iRange1, upTo, rngOk, vComp, compV, compRv, wipeE, iSeq, itemsD, vApp, chg, notIn, er, ez, h1, hl, hn]
    rw [e1]
    exact fin z z0 z1
  · rw [ifF (by simp [vDef, env0, vSeq, vSet, put, frz, thaw, vName, nrm, noMut, noMutL, v2, v1, vC, gIC, gI, gAdd, gMul, cMul, vCons, vCall, g1, gInt, gLen, gAbs, vRet, vRetName, vIfS, tB_, tV, vLst, vTup, lstRv, gridChild, isFlat, dsOf, alOf, mkL, gCat, gCatT, gCatS, gIx, atD, gEq, gIsN, gIsB, gIsi, isiD, vAnd, vOr, vNot, truD, tNot_, tAnd_, tOr_, vNeg, vCallF, frRv, vFor, loopV, gN, iRange1, upTo, rngOk, vComp, compV, compRv, wipeE, iSeq, itemsD, er, hlt])]
    obtain ⟨z, ez, z0, z1⟩ := e_mixed (c % 1000003 + 7919 * t) (u + 1)
    have e1 : (vApp 8 (vCallF c_law_mixed (vCons (v2 gAdd (v2 (gIC (fun _ j => decide (0 < j)) fun i j => .int (i % j)) (vCall (g1 gInt) (vCons (v2 gIx (vName 2) (vName 10)) (fun _ => some []))) (vC (.int 1000003))) (v2 gMul (vC (.int 7919)) (vName 10))) (vCons (v2 gAdd (vName 7) (vC (.int 1))) (fun _ => some []))))) [some (0, .scr ns), some (0, .int n), some (f2, .lst (cs.map .int)), s3, some (f4, .lst ds), s5, s6, some (2, .int u), some (f8, .lst p), some (0, .int k), some (2, .int t)]
        = .nx [some (0, .scr ns), some (0, .int n), some (f2, .lst (cs.map .int)), s3, some (f4, .lst ds), s5, s6, some (2, .int u), some (1, .lst (p ++ [.int z])), some (0, .int k), some (2, .int t)] := by
      simp [vDef, env0, vSeq, vSet, put, frz, thaw, vName, nrm, noMut, noMutL, v2, v1, vC, gIC, gI, gAdd, gMul, cMul, vCons, vCall, g1, gInt, gLen, gAbs, vRet, vRetName, vIfS, tB_, tV, vLst, vTup, lstRv, gridChild, isFlat, dsOf, alOf, mkL, gCat, gCatT, gCatS, gIx, atD, gEq, gIsN, gIsB, gIsi, isiD, vAnd, vOr, vNot, truD, tNot_, tAnd_, tOr_, vNeg, vCallF, frRv, vFor, loopV, gN, iRange1, upTo, rngOk, vComp, compV, compRv, wipeE, iSeq, itemsD, vApp, chg, notIn, ec, ez, h1, hl]
    rw [e1]
    exact fin z z0 z1
theorem e_pool {ns : List Int} (hns : ns.length ≤ 63) {n : Nat} (hn : n ≤ 100000) : ∃ p l, c_law_pool [.scr ns, .int n] = .ok (.lst p) l ∧ Pool n p := by
  suffices h : ∃ p l, b_law_pool [some (0, .scr ns), some (0, .int n), none, none, none, none, none, none, none, none, none] = .ret (.lst p) l ∧ Pool n p by
    obtain ⟨p, l, h1, h2⟩ := h
    exact ⟨p, l, def_ret h1, h2⟩
  show (fun r => ∃ p l, r = .ret (.lst p) l ∧ Pool n p) (b_law_pool _)
  have hcl : ((cutD ns none (some 63)).map fun n => if n < 0 then -n else n).length ≤ 63 := by
    rw [List.length_map]; unfold cutD
    rw [List.length_take, List.length_drop]; omega
  unfold b_law_pool
  refine seqP (P := fun r => ∃ p l, r = .ret (.lst p) l ∧ Pool n p) (e := [some (0, .scr ns), some (0, .int n), some (2, .lst (((cutD ns none (some 63)).map fun n => if n < 0 then -n else n).map .int)), none, none, none, none, none, none, none, none]) ?_ ?_
  · have hl : (cutD ns none (some 63)).length ≤ 16777216 := by
      rw [List.length_map] at hcl; omega
    have hc := comp_abs [some (0, .scr ns), some (0, .int n), none, none, none, none, none, none, none, none, none] (by simp) (cutD ns none (some 63))
    unfold vSet vComp
    have hi : iSeq (vSlice (vName 0) (fun _ => some none) (vPart (vC (.int 63)))) [some (0, .scr ns), some (0, .int n), none, none, none, none, none, none, none, none, none] = some ((cutD ns none (some 63)).map D.int, []) := by
      simp [vDef, env0, vSeq, vSet, put, frz, thaw, vName, nrm, noMut, noMutL, v2, v1, vC, gIC, gI, gAdd, gMul, cMul, vCons, vCall, g1, gInt, gLen, gAbs, vRet, vRetName, vIfS, tB_, tV, vLst, vTup, lstRv, gridChild, isFlat, dsOf, alOf, mkL, gCat, gCatT, gCatS, gIx, atD, gEq, gIsN, gIsB, gIsi, isiD, vAnd, vOr, vNot, truD, tNot_, tAnd_, tOr_, vNeg, vCallF, frRv, vFor, loopV, gN, iRange1, upTo, rngOk, vComp, compV, compRv, wipeE, iSeq, itemsD, vSlice, vPart, hl]
    rw [hi]
    dsimp only
    show (match (match compV (gN 3) (fun _ => some true) (vCall (g1 gAbs) (vCons (vCall (g1 gInt) (vCons (vName 3) (fun _ => some []))) (fun _ => some []))) [some (0, .scr ns), some (0, .int n), none, none, none, none, none, none, none, none, none] ((cutD ns none (some 63)).map D.int) with
      | some rs => some (compRv 11 rs)
      | none => none) with
      | some r => _
      | none => _) = _
    rw [hc]
    dsimp only
    rw [rv_all]
    rfl
  generalize ((cutD ns none (some 63)).map fun n => if n < 0 then -n else n) = cs at hcl
  have two : ∃ cs' : List Int, vIfS (tB_ (v2 (gEq false) (vName 2) (vLst (fun _ => some [])))) (vSet 2 (vLst (vCons (vC (.int 0)) (fun _ => some [])))) ((fun e => .nx e)) [some (0, .scr ns), some (0, .int n), some (2, .lst (cs.map .int)), none, none, none, none, none, none, none, none] = .nx [some (0, .scr ns), some (0, .int n), some (2, .lst (cs'.map .int)), none, none, none, none, none, none, none, none] ∧ 0 < cs'.length ∧ cs'.length ≤ 63 := by
    cases cs with
    | nil =>
      have e0 : eqD (.lst []) (.lst []) = some true := eqD_nil []
      exact ⟨[0], by simp [vDef, env0, vSeq, vSet, put, frz, thaw, vName, nrm, noMut, noMutL, v2, v1, vC, gIC, gI, gAdd, gMul, cMul, vCons, vCall, g1, gInt, gLen, gAbs, vRet, vRetName, vIfS, tB_, tV, vLst, vTup, lstRv, gridChild, isFlat, dsOf, alOf, mkL, gCat, gCatT, gCatS, gIx, atD, gEq, gIsN, gIsB, gIsi, isiD, vAnd, vOr, vNot, truD, tNot_, tAnd_, tOr_, vNeg, vCallF, frRv, vFor, loopV, gN, iRange1, upTo, rngOk, vComp, compV, compRv, wipeE, iSeq, itemsD, e0], by decide, by decide⟩
    | cons c cs =>
      have e0 : eqD (.lst (.int c :: cs.map .int)) (.lst []) = some false := by
        have := eqD_nil (c :: cs)
        simpa using this
      exact ⟨c :: cs, by simp [vDef, env0, vSeq, vSet, put, frz, thaw, vName, nrm, noMut, noMutL, v2, v1, vC, gIC, gI, gAdd, gMul, cMul, vCons, vCall, g1, gInt, gLen, gAbs, vRet, vRetName, vIfS, tB_, tV, vLst, vTup, lstRv, gridChild, isFlat, dsOf, alOf, mkL, gCat, gCatT, gCatS, gIx, atD, gEq, gIsN, gIsB, gIsi, isiD, vAnd, vOr, vNot, truD, tNot_, tAnd_, tOr_, vNeg, vCallF, frRv, vFor, loopV, gN, iRange1, upTo, rngOk, vComp, compV, compRv, wipeE, iSeq, itemsD, e0, noMut_ints], by simp, hcl⟩
  obtain ⟨cs', e2, c0, c63⟩ := two
  refine seqP (P := fun r => ∃ p l, r = .ret (.lst p) l ∧ Pool n p) (e := [some (0, .scr ns), some (0, .int n), some (2, .lst (cs'.map .int)), none, none, none, none, none, none, none, none]) e2 ?_
  refine seqP (P := fun r => ∃ p l, r = .ret (.lst p) l ∧ Pool n p) (e := [some (0, .scr ns), some (0, .int n), some (2, .lst (cs'.map .int)), none, some (2, .lst []), none, none, none, none, none, none]) (by simp [vDef, env0, vSeq, vSet, put, frz, thaw, vName, nrm, noMut, noMutL, v2, v1, vC, gIC, gI, gAdd, gMul, cMul, vCons, vCall, g1, gInt, gLen, gAbs, vRet, vRetName, vIfS, tB_, tV, vLst, vTup, lstRv, gridChild, isFlat, dsOf, alOf, mkL, gCat, gCatT, gCatS, gIx, atD, gEq, gIsN, gIsB, gIsi, isiD, vAnd, vOr, vNot, truD, tNot_, tAnd_, tOr_, vNeg, vCallF, frRv, vFor, loopV, gN, iRange1, upTo, rngOk, vComp, compV, compRv, wipeE, iSeq, itemsD]) ?_
  refine seqQ (P := fun r => ∃ p l, r = .ret (.lst p) l ∧ Pool n p) ?_
  obtain ⟨e3, h3, i3⟩ := forI (it := iSeq (vName 2)) (g := gN 3) (env := [some (0, .scr ns), some (0, .int n), some (2, .lst (cs'.map .int)), none, some (2, .lst []), none, none, none, none, none, none])
    (body := _) (I1 ns cs' n) (ds := cs'.map .int) (al := [2]) (by
      have hl : cs'.length ≤ 16777216 := by omega
      simp [vDef, env0, vSeq, vSet, put, frz, thaw, vName, nrm, noMut, noMutL, v2, v1, vC, gIC, gI, gAdd, gMul, cMul, vCons, vCall, g1, gInt, gLen, gAbs, vRet, vRetName, vIfS, tB_, tV, vLst, vTup, lstRv, gridChild, isFlat, dsOf, alOf, mkL, gCat, gCatT, gCatS, gIx, atD, gEq, gIsN, gIsB, gIsi, isiD, vAnd, vOr, vNot, truD, tNot_, tAnd_, tOr_, vNeg, vCallF, frRv, vFor, loopV, gN, iRange1, upTo, rngOk, vComp, compV, compRv, wipeE, iSeq, itemsD, hl]) ⟨none, 2, [], none, none, none, 0, rfl, by decide, rfl, fun d hd => by cases hd⟩ (fun j d e hj hi => by
      have hj2 : j < cs'.length := by
        have := (List.getElem?_eq_some_iff.mp hj).1
        rwa [List.length_map] at this
      exact pool_digits c63 (by omega) (by
        obtain ⟨c, _, rfl⟩ := List.mem_map.mp (List.mem_of_getElem? hj)
        exact ⟨c, rfl⟩) hi)
  refine ⟨e3, h3, ?_⟩
  rw [List.length_map] at i3
  obtain ⟨s3, fl, ds, s5, s6, s7, f2, rfl, a1, a2, a3⟩ := i3
  refine seqP (P := fun r => ∃ p l, r = .ret (.lst p) l ∧ Pool n p) (e := [some (0, .scr ns), some (0, .int n), some (f2, .lst (cs'.map .int)), s3, some (fl, .lst ds), s5, s6, s7, some (2, .lst []), none, none]) (by simp [vDef, env0, vSeq, vSet, put, frz, thaw, vName, nrm, noMut, noMutL, v2, v1, vC, gIC, gI, gAdd, gMul, cMul, vCons, vCall, g1, gInt, gLen, gAbs, vRet, vRetName, vIfS, tB_, tV, vLst, vTup, lstRv, gridChild, isFlat, dsOf, alOf, mkL, gCat, gCatT, gCatS, gIx, atD, gEq, gIsN, gIsB, gIsi, isiD, vAnd, vOr, vNot, truD, tNot_, tAnd_, tOr_, vNeg, vCallF, frRv, vFor, loopV, gN, iRange1, upTo, rngOk, vComp, compV, compRv, wipeE, iSeq, itemsD]) ?_
  refine seqQ (P := fun r => ∃ p l, r = .ret (.lst p) l ∧ Pool n p) ?_
  have r1 : -16777216 ≤ (n : Int) := by omega
  have r2 : (n : Int) ≤ 16777216 := by omega
  obtain ⟨e4, h4, i4⟩ := forI (it := iRange1 (vCons (vName 1) (fun _ => some []))) (g := gN 9) (env := [some (0, .scr ns), some (0, .int n), some (f2, .lst (cs'.map .int)), s3, some (fl, .lst ds), s5, s6, s7, some (2, .lst []), none, none])
    (body := _) (I3 ns cs' n) (ds := upTo 0 1 n) (al := []) (by simp [vDef, env0, vSeq, vSet, put, frz, thaw, vName, nrm, noMut, noMutL, v2, v1, vC, gIC, gI, gAdd, gMul, cMul, vCons, vCall, g1, gInt, gLen, gAbs, vRet, vRetName, vIfS, tB_, tV, vLst, vTup, lstRv, gridChild, isFlat, dsOf, alOf, mkL, gCat, gCatT, gCatS, gIx, atD, gEq, gIsN, gIsB, gIsi, isiD, vAnd, vOr, vNot, truD, tNot_, tAnd_, tOr_, vNeg, vCallF, frRv, vFor, loopV, gN, iRange1, upTo, rngOk, vComp, compV, compRv, wipeE, iSeq, itemsD, r1, r2]) ⟨s3, fl, ds, s5, s6, s7, f2, 2, [], none, none, rfl, by decide, a2, a3, pool_nil⟩ (fun j d e hj hi => by
      obtain ⟨hj90, rfl⟩ := upTo_at hj
      exact pool_turn c63 c0 (by omega) rfl hi)
  refine ⟨e4, h4, ?_⟩
  rw [upTo_length] at i4
  obtain ⟨s3, f4, ds, s5, s6, s7, f2, f8, p, s9, s10, rfl, b1, b2, b3, b4⟩ := i4
  exact ⟨p, f8, by simp [vDef, env0, vSeq, vSet, put, frz, thaw, vName, nrm, noMut, noMutL, v2, v1, vC, gIC, gI, gAdd, gMul, cMul, vCons, vCall, g1, gInt, gLen, gAbs, vRet, vRetName, vIfS, tB_, tV, vLst, vTup, lstRv, gridChild, isFlat, dsOf, alOf, mkL, gCat, gCatT, gCatS, gIx, atD, gEq, gIsN, gIsB, gIsi, isiD, vAnd, vOr, vNot, truD, tNot_, tAnd_, tOr_, vNeg, vCallF, frRv, vFor, loopV, gN, iRange1, upTo, rngOk, vComp, compV, compRv, wipeE, iSeq, itemsD], b4⟩
theorem pure_law : ∀ ns : List Int, ns.length ≤ 63 → (∀ z ∈ ns, PySem.Builtin.Int.intBits z ≤ 1048576) → ∃ l, c_law [.scr ns] = .ok (.bl true) l := fun ns h _ => by
  obtain ⟨p, l, h1, h2⟩ := e_pool h (n := 60) (by decide)
  exact e_law h1 h2
end VL

open PySem PySem.W PyProof.Rows in
set_option maxRecDepth 100000 in
set_option maxHeartbeats 0 in
theorem PySem.Challenge.cw_fullhands_k96_errors_built_holds : PySem.Challenge.rw_fullhands_k96_errors_built.Holds := by
  w_on; o_law; k_head; (case hw => w_witness2)
  k_fill
  refine VL.walk (l := PySem.Challenge.rw_fullhands_k96_errors_built) (k := 10) rfl rfl ⟨rfl, by decide, by decide⟩ (fun w h Y => PySem.W.kIn_of Y) ?F
  case F =>
    intro w mg fa h KX G hmg
    refine' VL.all_mk KX G hmg ?z_ValueError ?z_abs ?z_bool ?z_int ?z_isinstance ?z_len ?z_list ?z_range ?z_str ?z_tuple ?a_FullhandsError ?a_BadTable ?a_BadText ?a_BadStanding ?a_CannotMove ?a_NoSuch ?a_WrongGround ?a_TooGreat ?a_BadVector ?a_NotLocal ?a_BadProgram ?a_InUse ?a_AttemptFailed ?a_BadLot ?a_BadDealing ?a_NotCore ?a_BadLoads ?a_Impossible ?a_BadLine ?a_NothingToUndo ?a_NothingToRedo ?o_BadTable ?n_BadTable ?i_BadTable ?t_BadTable ?l_init_BadTable ?cc_init_BadTable ?k_init_BadTable ?o_BadText ?n_BadText ?i_BadText ?t_BadText ?l_init_BadText ?cc_init_BadText ?k_init_BadText ?o_BadStanding ?n_BadStanding ?i_BadStanding ?t_BadStanding ?l_init_BadStanding ?cc_init_BadStanding ?k_init_BadStanding ?o_CannotMove ?n_CannotMove ?i_CannotMove ?t_CannotMove ?l_init_CannotMove ?cc_init_CannotMove ?k_init_CannotMove ?o_NoSuch ?n_NoSuch ?i_NoSuch ?t_NoSuch ?l_init_NoSuch ?cc_init_NoSuch ?k_init_NoSuch ?o_WrongGround ?n_WrongGround ?i_WrongGround ?t_WrongGround ?l_init_WrongGround ?cc_init_WrongGround ?k_init_WrongGround ?o_TooGreat ?n_TooGreat ?i_TooGreat ?t_TooGreat ?l_init_TooGreat ?cc_init_TooGreat ?k_init_TooGreat ?o_BadVector ?n_BadVector ?i_BadVector ?t_BadVector ?l_init_BadVector ?cc_init_BadVector ?k_init_BadVector ?o_NotLocal ?n_NotLocal ?i_NotLocal ?t_NotLocal ?l_init_NotLocal ?cc_init_NotLocal ?k_init_NotLocal ?o_BadProgram ?n_BadProgram ?i_BadProgram ?t_BadProgram ?l_init_BadProgram ?cc_init_BadProgram ?k_init_BadProgram ?o_InUse ?n_InUse ?i_InUse ?t_InUse ?l_init_InUse ?cc_init_InUse ?k_init_InUse ?o_AttemptFailed ?n_AttemptFailed ?i_AttemptFailed ?t_AttemptFailed ?l_init_AttemptFailed ?cc_init_AttemptFailed ?k_init_AttemptFailed ?k_BadLot ?q_BadLot ?k_BadDealing ?q_BadDealing ?k_NotCore ?q_NotCore ?k_BadLoads ?q_BadLoads ?k_Impossible ?q_Impossible ?k_BadLine ?q_BadLine ?k_NothingToUndo ?q_NothingToUndo ?k_NothingToRedo ?q_NothingToRedo ?r_CannotMove ?r_BadStanding ?r_BadText ?r_BadTable ?r_BadVector ?r_TooGreat ?r_WrongGround ?r_NoSuch ?r_InUse ?r_BadProgram ?r_NotLocal ?r_BadDealing ?r_BadLot ?r_AttemptFailed ?r_BadLine ?r_Impossible ?r_BadLoads ?r_NotCore ?r_NothingToRedo ?r_NothingToUndo ?r_FullhandsError ?r_ValueError ?a_law_mixed ?l_law_mixed ?cc_law_mixed ?k_law_mixed ?a_law_pool ?l_law_pool ?cc_law_pool ?k_law_pool ?a_law_word ?l_law_word ?cc_law_word ?k_law_word ?a_law_number ?l_law_number ?cc_law_number ?k_law_number ?a_law_fields_of ?l_law_fields_of ?cc_law_fields_of ?k_law_fields_of ?a_law_made ?l_law_made ?cc_law_made ?k_law_made ?a_law_same ?l_law_same ?cc_law_same ?k_law_same ?a_law_read ?l_law_read ?cc_law_read ?k_law_read ?a_law_classes_of ?l_law_classes_of ?cc_law_classes_of ?k_law_classes_of ?a_law_right ?l_law_right ?cc_law_right ?k_law_right ?a_law ?l_law ?cc_law ?k_law ?pure
    (case z_ValueError => k_is)
    (case z_abs => k_is)
    (case z_bool => k_is)
    (case z_int => k_is)
    (case z_isinstance => k_is)
    (case z_len => k_is)
    (case z_list => k_is)
    (case z_range => k_is)
    (case z_str => k_is)
    (case z_tuple => k_is)
    (case a_FullhandsError => k_is)
    (case a_BadTable => k_is)
    (case a_BadText => k_is)
    (case a_BadStanding => k_is)
    (case a_CannotMove => k_is)
    (case a_NoSuch => k_is)
    (case a_WrongGround => k_is)
    (case a_TooGreat => k_is)
    (case a_BadVector => k_is)
    (case a_NotLocal => k_is)
    (case a_BadProgram => k_is)
    (case a_InUse => k_is)
    (case a_AttemptFailed => k_is)
    (case a_BadLot => k_is)
    (case a_BadDealing => k_is)
    (case a_NotCore => k_is)
    (case a_BadLoads => k_is)
    (case a_Impossible => k_is)
    (case a_BadLine => k_is)
    (case a_NothingToUndo => k_is)
    (case a_NothingToRedo => k_is)
    (case o_BadTable => kernel_rfl)
    (case n_BadTable => kernel_rfl)
    (case i_BadTable => k_is)
    (case t_BadTable => k_is)
    (case l_init_BadTable => k_is)
    (case cc_init_BadTable => k_is)
    (case k_init_BadTable => k_is)
    (case o_BadText => kernel_rfl)
    (case n_BadText => kernel_rfl)
    (case i_BadText => k_is)
    (case t_BadText => k_is)
    (case l_init_BadText => k_is)
    (case cc_init_BadText => k_is)
    (case k_init_BadText => k_is)
    (case o_BadStanding => kernel_rfl)
    (case n_BadStanding => kernel_rfl)
    (case i_BadStanding => k_is)
    (case t_BadStanding => k_is)
    (case l_init_BadStanding => k_is)
    (case cc_init_BadStanding => k_is)
    (case k_init_BadStanding => k_is)
    (case o_CannotMove => kernel_rfl)
    (case n_CannotMove => kernel_rfl)
    (case i_CannotMove => k_is)
    (case t_CannotMove => k_is)
    (case l_init_CannotMove => k_is)
    (case cc_init_CannotMove => k_is)
    (case k_init_CannotMove => k_is)
    (case o_NoSuch => kernel_rfl)
    (case n_NoSuch => kernel_rfl)
    (case i_NoSuch => k_is)
    (case t_NoSuch => k_is)
    (case l_init_NoSuch => k_is)
    (case cc_init_NoSuch => k_is)
    (case k_init_NoSuch => k_is)
    (case o_WrongGround => kernel_rfl)
    (case n_WrongGround => kernel_rfl)
    (case i_WrongGround => k_is)
    (case t_WrongGround => k_is)
    (case l_init_WrongGround => k_is)
    (case cc_init_WrongGround => k_is)
    (case k_init_WrongGround => k_is)
    (case o_TooGreat => kernel_rfl)
    (case n_TooGreat => kernel_rfl)
    (case i_TooGreat => k_is)
    (case t_TooGreat => k_is)
    (case l_init_TooGreat => k_is)
    (case cc_init_TooGreat => k_is)
    (case k_init_TooGreat => k_is)
    (case o_BadVector => kernel_rfl)
    (case n_BadVector => kernel_rfl)
    (case i_BadVector => k_is)
    (case t_BadVector => k_is)
    (case l_init_BadVector => k_is)
    (case cc_init_BadVector => k_is)
    (case k_init_BadVector => k_is)
    (case o_NotLocal => kernel_rfl)
    (case n_NotLocal => kernel_rfl)
    (case i_NotLocal => k_is)
    (case t_NotLocal => k_is)
    (case l_init_NotLocal => k_is)
    (case cc_init_NotLocal => k_is)
    (case k_init_NotLocal => k_is)
    (case o_BadProgram => kernel_rfl)
    (case n_BadProgram => kernel_rfl)
    (case i_BadProgram => k_is)
    (case t_BadProgram => k_is)
    (case l_init_BadProgram => k_is)
    (case cc_init_BadProgram => k_is)
    (case k_init_BadProgram => k_is)
    (case o_InUse => kernel_rfl)
    (case n_InUse => kernel_rfl)
    (case i_InUse => k_is)
    (case t_InUse => k_is)
    (case l_init_InUse => k_is)
    (case cc_init_InUse => k_is)
    (case k_init_InUse => k_is)
    (case o_AttemptFailed => kernel_rfl)
    (case n_AttemptFailed => kernel_rfl)
    (case i_AttemptFailed => k_is)
    (case t_AttemptFailed => k_is)
    (case l_init_AttemptFailed => k_is)
    (case cc_init_AttemptFailed => k_is)
    (case k_init_AttemptFailed => k_is)
    (case k_BadLot => k_is)
    (case q_BadLot => kernel_rfl)
    (case k_BadDealing => k_is)
    (case q_BadDealing => kernel_rfl)
    (case k_NotCore => k_is)
    (case q_NotCore => kernel_rfl)
    (case k_BadLoads => k_is)
    (case q_BadLoads => kernel_rfl)
    (case k_Impossible => k_is)
    (case q_Impossible => kernel_rfl)
    (case k_BadLine => k_is)
    (case q_BadLine => kernel_rfl)
    (case k_NothingToUndo => k_is)
    (case q_NothingToUndo => kernel_rfl)
    (case k_NothingToRedo => k_is)
    (case q_NothingToRedo => kernel_rfl)
    (case r_CannotMove => kernel_rfl)
    (case r_BadStanding => kernel_rfl)
    (case r_BadText => kernel_rfl)
    (case r_BadTable => kernel_rfl)
    (case r_BadVector => kernel_rfl)
    (case r_TooGreat => kernel_rfl)
    (case r_WrongGround => kernel_rfl)
    (case r_NoSuch => kernel_rfl)
    (case r_InUse => kernel_rfl)
    (case r_BadProgram => kernel_rfl)
    (case r_NotLocal => kernel_rfl)
    (case r_BadDealing => kernel_rfl)
    (case r_BadLot => kernel_rfl)
    (case r_AttemptFailed => kernel_rfl)
    (case r_BadLine => kernel_rfl)
    (case r_Impossible => kernel_rfl)
    (case r_BadLoads => kernel_rfl)
    (case r_NotCore => kernel_rfl)
    (case r_NothingToRedo => kernel_rfl)
    (case r_NothingToUndo => kernel_rfl)
    (case r_FullhandsError => kernel_rfl)
    (case r_ValueError => kernel_rfl)
    (case a_law_mixed => k_is)
    (case l_law_mixed => k_is)
    (case cc_law_mixed => k_is)
    (case k_law_mixed => k_is)
    (case a_law_pool => k_is)
    (case l_law_pool => k_is)
    (case cc_law_pool => k_is)
    (case k_law_pool => k_is)
    (case a_law_word => k_is)
    (case l_law_word => k_is)
    (case cc_law_word => k_is)
    (case k_law_word => k_is)
    (case a_law_number => k_is)
    (case l_law_number => k_is)
    (case cc_law_number => k_is)
    (case k_law_number => k_is)
    (case a_law_fields_of => k_is)
    (case l_law_fields_of => k_is)
    (case cc_law_fields_of => k_is)
    (case k_law_fields_of => k_is)
    (case a_law_made => k_is)
    (case l_law_made => k_is)
    (case cc_law_made => k_is)
    (case k_law_made => k_is)
    (case a_law_same => k_is)
    (case l_law_same => k_is)
    (case cc_law_same => k_is)
    (case k_law_same => k_is)
    (case a_law_read => k_is)
    (case l_law_read => k_is)
    (case cc_law_read => k_is)
    (case k_law_read => k_is)
    (case a_law_classes_of => k_is)
    (case l_law_classes_of => k_is)
    (case cc_law_classes_of => k_is)
    (case k_law_classes_of => k_is)
    (case a_law_right => k_is)
    (case l_law_right => k_is)
    (case cc_law_right => k_is)
    (case k_law_right => k_is)
    (case a_law => k_is)
    (case l_law => k_is)
    (case cc_law => k_is)
    (case k_law => k_is)
    (case pure => exact VL.pure_law)
#print axioms PySem.Challenge.cw_fullhands_k96_errors_built_holds

