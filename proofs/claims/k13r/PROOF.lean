import PyProof.Rows.All
import Wide.All
import OpenK.AllK
import Wide.FinOn
import HandS.ForMost
import HandS.Walk
import HandS.Exc
import HandS.TryOnly
import HandS.ExcOwn
import HandS.WordsExc
import HandS.ExcField
import HandS.ExcInit
import HandS.TupAny
import HandS.TupLe
import HandS.Deep
import HandS.Wide
import HandS.IsInst
import HandS.Sort
import HandS.SortInts
import KE.GoesEnum
import HandS.Zip
import HandS.More
import HandS.Property
import HandS.Defaults
import HandS.MakeKwOnly
import PyProof.WalkInts
import HandS.ExcIs
import KE.KExcIs
import HandS.EndBits
import KE.KExcPX
import HandS.TryMany
import HandS.Text
import HandS.StrMore
import HandS.RaiseMore
import HandS.HeadHook3
import PySem.Challenge.RW_fullhands_k13_run_text_back
import KE.OsGo
import KE.KEqSeq
set_option Elab.async false
set_option linter.all false
set_option maxRecDepth 100000
namespace VL
open PySem PySem.Spec L2

/-! ### the data -/
inductive D where
  | non | bl (b : Bool) | int (i : Int) | str (x : Str)
  | lst (xs : List D) | tup (xs : List D)
  | dic (kvs : List (Key × D))
  | ins (c : Nat) (fs : List (Str × D))
  | scr (ns : List Int)
  | exc (c : Nat) (fs : List (Str × D))
  /-- a dict of the module, never changed: texts to small things -/
  | kdc (kvs : List (Str × D))

mutual
def noMut : D → Bool
  | .tup xs => noMutL xs
  | .lst _ => false
  | .dic _ => false
  | .ins _ _ => false
  | .scr _ => false
  | .exc _ _ => false
  | .non => true
  | .bl _ => true
  | .int _ => true
  | .str _ => true
  | .kdc _ => true
def noMutL : List D → Bool
  | [] => true
  | x :: xs => noMut x && noMutL xs
end
/-- a list of data without lists -/
def isFlat : D → Bool
  | .lst xs => noMutL xs
  | _ => false

theorem noMutL_mem : ∀ {ds : List D}, noMutL ds = true → ∀ d ∈ ds, noMut d = true
  | [], _, d, h => by cases h
  | x :: xs, h, d, hd => by
    rw [noMutL, Bool.and_eq_true] at h
    rcases List.mem_cons.mp hd with rfl | hd
    · exact h.1
    · exact noMutL_mem h.2 d hd
theorem noMutL_of : ∀ {ds : List D}, (∀ d ∈ ds, noMut d = true) → noMutL ds = true
  | [], _ => by rw [noMutL]
  | x :: xs, h => by
    rw [noMutL, h x List.mem_cons_self, noMutL_of fun d hd => h d (List.mem_cons_of_mem _ hd)]
    rfl

abbrev ASet := Addr → Prop
/-- what stands for the classes: the class at each number -/
structure ClsT where
  cls : Nat → Option Addr
  /-- the errors that are handled: the number of the class, the dict -/
  han : Addr → Option (Nat × Option Addr) := fun _ => none
  /-- the dicts of the module -/
  con : Addr → Option (List (Str × D)) := fun _ => none
instance : CoeFun ClsT (fun _ => Nat → Option Addr) := ⟨ClsT.cls⟩
def NoFx (o : HO) : Prop := (∀ p q, o ≠ .frz p q) ∧ ∀ xs, o ≠ .xd xs

/-! ### what stands for a datum. F: the places of its lists, dicts, instances -/
mutual
inductive Rep (K : PySem.W.Frag) (Cl : ClsT) (H : Hp) (F : ASet) : V → D → Prop
  | non : Rep K Cl H F .non .non
  | bl (b : Bool) : Rep K Cl H F (.bl b) (.bl b)
  | int (i : Int) : Rep K Cl H F (.int i) (.int i)
  | str (x : Str) : Rep K Cl H F (.str x) (.str x)
  | tup {a : Addr} {xs : List V} {ds : List D} : SqT K H a xs → Reps K Cl H F xs ds → Rep K Cl H F (.ref a) (.tup ds)
  | lst {a : Addr} {xs : List V} {ds : List D} : H a = some (.lst xs) → F a → Reps K Cl H F xs ds → Rep K Cl H F (.ref a) (.lst ds)
  | dic {a : Addr} {xs : List (Key × V)} {ds : List (Key × D)} : H a = some (.dK xs) → F a → RepK K Cl H F xs ds → Rep K Cl H F (.ref a) (.dic ds)
  | ins {a C dx : Addr} {c : Nat} {xs : List (Str × V)} {ds : List (Str × D)} : H a = some (.ins C dx xs) → F a → Cl c = some C → RepF K Cl H F xs ds → Rep K Cl H F (.ref a) (.ins c ds)
  | scr {a : Addr} {ns : List Int} : SqL K H a (ns.map V.int) → F a → Rep K Cl H F (.ref a) (.scr ns)
  | scrK {a : Addr} {ns : List Int} : (∀ H', SqL K H' a (ns.map V.int)) → Rep K Cl H F (.ref a) (.scr ns)
  | exc0 {a C : Addr} {c : Nat} : H a = some (exo a C none) → F a → Cl c = some C → Rep K Cl H F (.ref a) (.exc c [])
  | exc {a C dx : Addr} {c : Nat} {xs : List (Str × V)} {ds : List (Str × D)} : H a = some (exo a C (some dx)) → H dx = some (exd dx xs) → F a → F dx → Cl c = some C → RepF K Cl H F xs ds → Rep K Cl H F (.ref a) (.exc c ds)
  | exh0 {a : Addr} {c : Nat} : Cl.han a = some (c, none) → Rep K Cl H F (.ref a) (.exc c [])
  | exh {a dd : Addr} {c : Nat} {xs : List (Str × V)} {ds : List (Str × D)} : Cl.han a = some (c, some dd) → H dd = some (.xd xs) → RepF K Cl H F xs ds → Rep K Cl H F (.ref a) (.exc c ds)
  | kdc {a : Addr} {kvs : List (Str × D)} : Cl.con a = some kvs → Rep K Cl H F (.ref a) (.kdc kvs)
inductive Reps (K : PySem.W.Frag) (Cl : ClsT) (H : Hp) (F : ASet) : List V → List D → Prop
  | nil : Reps K Cl H F [] []
  | cons {v : V} {d : D} {vs : List V} {ds : List D} : Rep K Cl H F v d → Reps K Cl H F vs ds → Reps K Cl H F (v :: vs) (d :: ds)
inductive RepK (K : PySem.W.Frag) (Cl : ClsT) (H : Hp) (F : ASet) : List (Key × V) → List (Key × D) → Prop
  | nil : RepK K Cl H F [] []
  | cons {k : Key} {v : V} {d : D} {vs : List (Key × V)} {ds : List (Key × D)} : Rep K Cl H F v d → RepK K Cl H F vs ds → RepK K Cl H F ((k, v) :: vs) ((k, d) :: ds)
inductive RepF (K : PySem.W.Frag) (Cl : ClsT) (H : Hp) (F : ASet) : List (Str × V) → List (Str × D) → Prop
  | nil : RepF K Cl H F [] []
  | cons {k : Str} {v : V} {d : D} {vs : List (Str × V)} {ds : List (Str × D)} : Rep K Cl H F v d → RepF K Cl H F vs ds → RepF K Cl H F ((k, v) :: vs) ((k, d) :: ds)
end

/-- what H says at F, of tuples and of what is locked stays -/
structure Stay (F : ASet) (H H' : Hp) : Prop where
  at_ : ∀ a o, F a → H a = some o → H' a = some o
  tup : ∀ a xs, H a = some (.tup xs) → H' a = some (.tup xs)
  frz : ∀ a o u, H a = some (.frz o u) → H' a = some (.frz o u)
  xd : ∀ a xs, H a = some (.xd xs) → H' a = some (.xd xs)
theorem Stay.of_same {F : ASet} {H H' : Hp} (s : Same H H') : Stay F H H' := ⟨fun a o _ e => s a o e, fun a xs e => s a _ e, fun a o u e => s a _ e, fun a xs e => s a _ e⟩
theorem Stay.upd {F : ASet} {H : Hp} {a : Addr} {o u : HO} (h : H a = some u) (n : ¬ F a) (nt : ∀ xs, u ≠ .tup xs) (nf : NoFx u) : Stay F H (upd H a o) := by
  refine ⟨fun b p f e => ?_, fun b xs e => ?_, fun b p q e => ?_, fun b xs e => ?_⟩
  · rw [upd_ne (fun z => n (by rw [← z]; exact f))]; exact e
  · rw [upd_ne (fun z => by subst z; rw [h] at e; cases e; exact nt _ rfl)]; exact e
  · rw [upd_ne (fun z => by subst z; rw [h] at e; cases e; exact nf.1 _ _ rfl)]; exact e
  · rw [upd_ne (fun z => by subst z; rw [h] at e; cases e; exact nf.2 _ rfl)]; exact e
theorem Stay.tupS {K : PySem.W.Frag} {F : ASet} {H H' : Hp} {a : Addr} {xs : List V} (s : Stay F H H') (h : SqT K H a xs) : SqT K H' a xs := by
  rcases h with (h | ⟨o, h⟩) | h
  · exact .inl (.inl (s.tup _ _ h))
  · exact .inl (.inr ⟨o, s.frz _ _ _ h⟩)
  · exact .inr h

section
variable {K : PySem.W.Frag} {Cl : ClsT} {H H' : Hp} {F F' : ASet}
mutual
theorem Rep.go (s : Stay F H H') (m : ∀ a, F a → F' a) : ∀ {v : V} {d : D}, Rep K Cl H F v d → Rep K Cl H' F' v d
  | _, _, .non => .non
  | _, _, .bl b => .bl b
  | _, _, .int i => .int i
  | _, _, .str x => .str x
  | _, _, .tup h r => .tup (s.tupS h) (Reps.go s m r)
  | _, _, .lst h f r => .lst (s.at_ _ _ f h) (m _ f) (Reps.go s m r)
  | _, _, .dic h f r => .dic (s.at_ _ _ f h) (m _ f) (RepK.go s m r)
  | _, _, .ins h f c r => .ins (s.at_ _ _ f h) (m _ f) c (RepF.go s m r)
  | _, _, .scr h f => .scr (by
      rcases h with (h | ⟨o, h⟩) | h
      · exact .inl (.inl (s.at_ _ _ f h))
      · exact .inl (.inr ⟨o, s.frz _ _ _ h⟩)
      · exact .inr h) (m _ f)
  | _, _, .scrK h => .scrK h
  | _, _, .exc0 h f c => .exc0 (s.at_ _ _ f h) (m _ f) c
  | _, _, .exc h hd f fd c r => .exc (s.at_ _ _ f h) (s.at_ _ _ fd hd) (m _ f) (m _ fd) c (RepF.go s m r)
  | _, _, .exh0 h => .exh0 h
  | _, _, .kdc h => .kdc h
  | _, _, .exh h hd r => .exh h (s.xd _ _ hd) (RepF.go s m r)
theorem Reps.go (s : Stay F H H') (m : ∀ a, F a → F' a) : ∀ {v : List V} {d : List D}, Reps K Cl H F v d → Reps K Cl H' F' v d
  | _, _, .nil => .nil
  | _, _, .cons a b => .cons (Rep.go s m a) (Reps.go s m b)
theorem RepK.go (s : Stay F H H') (m : ∀ a, F a → F' a) : ∀ {v : List (Key × V)} {d : List (Key × D)}, RepK K Cl H F v d → RepK K Cl H' F' v d
  | _, _, .nil => .nil
  | _, _, .cons a b => .cons (Rep.go s m a) (RepK.go s m b)
theorem RepF.go (s : Stay F H H') (m : ∀ a, F a → F' a) : ∀ {v : List (Str × V)} {d : List (Str × D)}, RepF K Cl H F v d → RepF K Cl H' F' v d
  | _, _, .nil => .nil
  | _, _, .cons a b => .cons (Rep.go s m a) (RepF.go s m b)
end
theorem Rep.same (r : Rep K Cl H F v d) (s : Same H H') : Rep K Cl H' F v d := r.go (.of_same s) fun _ h => h
theorem Reps.same (r : Reps K Cl H F v d) (s : Same H H') : Reps K Cl H' F v d := r.go (.of_same s) fun _ h => h
theorem Rep.mono (r : Rep K Cl H F v d) (m : ∀ a, F a → F' a) : Rep K Cl H F' v d := r.go (.of_same (Same.refl _)) m
theorem Reps.mono (r : Reps K Cl H F v d) (m : ∀ a, F a → F' a) : Reps K Cl H F' v d := r.go (.of_same (Same.refl _)) m

mutual
/-- a datum without lists leans on no place -/
theorem Rep.pure : ∀ {v : V} {d : D}, Rep K Cl H F v d → noMut d = true → Rep K Cl H F' v d
  | _, _, .non, _ => .non
  | _, _, .bl b, _ => .bl b
  | _, _, .int i, _ => .int i
  | _, _, .str x, _ => .str x
  | _, _, .tup h r, n => .tup h (Reps.pure r (by rw [noMut] at n; exact n))
  | _, _, .lst _ _ _, n => by rw [noMut] at n; cases n
  | _, _, .dic _ _ _, n => by rw [noMut] at n; cases n
  | _, _, .ins _ _ _ _, n => by rw [noMut] at n; cases n
  | _, _, .scr _ _, n => by rw [noMut] at n; cases n
  | _, _, .scrK _, n => by rw [noMut] at n; cases n
  | _, _, .exc0 _ _ _, n => by rw [noMut] at n; cases n
  | _, _, .exc _ _ _ _ _ _, n => by rw [noMut] at n; cases n
  | _, _, .exh0 _, n => by rw [noMut] at n; cases n
  | _, _, .kdc h, _ => .kdc h
  | _, _, .exh _ _ _, n => by rw [noMut] at n; cases n
theorem Reps.pure : ∀ {v : List V} {d : List D}, Reps K Cl H F v d → noMutL d = true → Reps K Cl H F' v d
  | _, _, .nil, _ => .nil
  | _, _, .cons a b, n => by
    rw [noMutL, Bool.and_eq_true] at n
    exact .cons (Rep.pure a n.1) (Reps.pure b n.2)
end
theorem Reps.length : ∀ {v : List V} {d : List D}, Reps K Cl H F v d → v.length = d.length
  | _, _, .nil => rfl
  | _, _, .cons _ b => by rw [List.length_cons, List.length_cons, b.length]
theorem Reps.get : ∀ {vs : List V} {ds : List D} {i : Nat} {d : D}, Reps K Cl H F vs ds → ds[i]? = some d → ∃ v, vs[i]? = some v ∧ Rep K Cl H F v d
  | _, _, _, _, .nil, e => by simp at e
  | _, _, 0, _, .cons a _, e => by simp at e; subst e; exact ⟨_, rfl, a⟩
  | _, _, i + 1, d, .cons _ b, e => by
    obtain ⟨v, h1, h2⟩ := Reps.get (i := i) (d := d) b (by simpa using e)
    exact ⟨v, by simpa using h1, h2⟩
theorem Reps.get' : ∀ {vs : List V} {ds : List D} {i : Nat} {v : V}, Reps K Cl H F vs ds → vs[i]? = some v → ∃ d, ds[i]? = some d ∧ Rep K Cl H F v d
  | _, _, _, _, .nil, e => by simp at e
  | _, _, 0, _, .cons a _, e => by simp at e; subst e; exact ⟨_, rfl, a⟩
  | _, _, i + 1, v, .cons _ b, e => by
    obtain ⟨d, h1, h2⟩ := Reps.get' (i := i) (v := v) b (by simpa using e)
    exact ⟨d, by simpa using h1, h2⟩
theorem Reps.append : ∀ {vs ws : List V} {ds es : List D}, Reps K Cl H F vs ds → Reps K Cl H F ws es → Reps K Cl H F (vs ++ ws) (ds ++ es)
  | _, _, _, _, .nil, s => s
  | _, _, _, _, .cons a b, s => .cons a (Reps.append b s)
theorem Reps.drop : ∀ {vs : List V} {ds : List D} (n : Nat), Reps K Cl H F vs ds → Reps K Cl H F (vs.drop n) (ds.drop n)
  | _, _, 0, r => r
  | _, _, _ + 1, .nil => .nil
  | _, _, n + 1, .cons _ t => Reps.drop n t
theorem Reps.take : ∀ {vs : List V} {ds : List D} (n : Nat), Reps K Cl H F vs ds → Reps K Cl H F (vs.take n) (ds.take n)
  | _, _, 0, _ => .nil
  | _, _, _ + 1, .nil => .nil
  | _, _, n + 1, .cons r t => .cons r (Reps.take n t)
theorem Reps.set {v : V} {d : D} (r : Rep K Cl H F v d) : ∀ {vs : List V} {ds : List D} (i : Nat), Reps K Cl H F vs ds → Reps K Cl H F (vs.set i v) (ds.set i d)
  | _, _, _, .nil => .nil
  | _, _, 0, .cons _ t => .cons r t
  | _, _, i + 1, .cons q t => .cons q (Reps.set r i t)
theorem Reps.reverse {vs : List V} {ds : List D} (h : Reps K Cl H F vs ds) : Reps K Cl H F vs.reverse ds.reverse := by
  induction h using Reps.rec (motive_1 := fun _ _ _ => True) (motive_3 := fun _ _ _ => True) (motive_4 := fun _ _ _ => True) <;> try trivial
  · exact .nil
  · rename_i _ b _ ih
    rw [List.reverse_cons, List.reverse_cons]
    rename_i a
    first
      | exact ih.append (.cons a .nil)
      | exact ih.append (.cons (by assumption) .nil)
theorem Rep.int_of {v : V} {i : Int} (h : Rep K Cl H F v (.int i)) : v = .int i := by cases h; rfl
theorem Rep.bl_of {v : V} {i : Bool} (h : Rep K Cl H F v (.bl i)) : v = .bl i := by cases h; rfl
theorem Rep.str_of {v : V} {i : Str} (h : Rep K Cl H F v (.str i)) : v = .str i := by cases h; rfl
theorem Rep.non_of {v : V} (h : Rep K Cl H F v .non) : v = .non := by cases h; rfl
theorem Rep.lst_of {v : V} {ds : List D} (h : Rep K Cl H F v (.lst ds)) : ∃ a xs, v = .ref a ∧ H a = some (.lst xs) ∧ F a ∧ Reps K Cl H F xs ds := by cases h; exact ⟨_, _, rfl, by assumption, by assumption, by assumption⟩
theorem Rep.tup_of {v : V} {ds : List D} (h : Rep K Cl H F v (.tup ds)) : ∃ a xs, v = .ref a ∧ SqT K H a xs ∧ Reps K Cl H F xs ds := by cases h; exact ⟨_, _, rfl, by assumption, by assumption⟩
end

/-! ### results, levels, slots -/
structure Rv where
  d : D
  l : Nat
  al : List Nat
abbrev Slot := Option (Nat × D)
abbrev Ev := List Slot
abbrev VE := Ev → Option Rv

/-- v is a thing of its own at a: its children lean on F', not on a -/
inductive Own (K : PySem.W.Frag) (Cl : ClsT) (H : Hp) (F' : ASet) : Addr → D → Prop
  | lst {a : Addr} {xs : List V} {ds : List D} : H a = some (.lst xs) → Reps K Cl H F' xs ds → Own K Cl H F' a (.lst ds)
  | dic {a : Addr} {xs : List (Key × V)} {ds : List (Key × D)} : H a = some (.dK xs) → RepK K Cl H F' xs ds → Own K Cl H F' a (.dic ds)
  | ins {a C dx : Addr} {c : Nat} {xs : List (Str × V)} {ds : List (Str × D)} : H a = some (.ins C dx xs) → Cl c = some C → RepF K Cl H F' xs ds → Own K Cl H F' a (.ins c ds)
theorem Own.rep {K : PySem.W.Frag} {Cl : ClsT} {H : Hp} {F F' : ASet} {a : Addr} {d : D} (h : Own K Cl H F' a d) (fa : F a) (m : ∀ b, F' b → F b) : Rep K Cl H F (.ref a) d := by
  cases h with
  | lst h r => exact .lst h fa (r.mono m)
  | dic h r => exact .dic h fa (r.go (.of_same (Same.refl _)) m)
  | ins h c r => exact .ins h fa c (r.go (.of_same (Same.refl _)) m)
theorem Own.go {K : PySem.W.Frag} {Cl : ClsT} {H H' : Hp} {F : ASet} {a : Addr} {d : D} (h : Own K Cl H F a d) (s : Stay F H H') (ha : ∀ o, H a = some o → H' a = some o) : Own K Cl H' F a d := by
  cases h with
  | lst h r => exact .lst (ha _ h) (r.go s fun _ h => h)
  | dic h r => exact .dic (ha _ h) (r.go s fun _ h => h)
  | ins h c r => exact .ins (ha _ h) c (r.go s fun _ h => h)
theorem Own.there {K : PySem.W.Frag} {Cl : ClsT} {H : Hp} {F : ASet} {a : Addr} {d : D} (h : Own K Cl H F a d) : ∃ o, H a = some o ∧ (∀ xs, o ≠ .tup xs) ∧ (NoFx o) := by
  cases h with
  | lst h r => exact ⟨_, h, (fun _ z => by cases z), ⟨(fun _ _ z => by cases z), fun _ z => by cases z⟩⟩
  | dic h r => exact ⟨_, h, (fun _ z => by cases z), ⟨(fun _ _ z => by cases z), fun _ z => by cases z⟩⟩
  | ins h c r => exact ⟨_, h, (fun _ z => by cases z), ⟨(fun _ _ z => by cases z), fun _ z => by cases z⟩⟩
end VL

namespace VL
open PySem PySem.Spec L2

inductive Grid (K : PySem.W.Frag) (Cl : ClsT) (H : Hp) : List Addr → List V → List D → Prop
  | nil : Grid K Cl H [] [] []
  | pure {as : List Addr} {v : V} {d : D} {vs : List V} {ds : List D} : Rep K Cl H (fun _ => False) v d → noMut d = true → Grid K Cl H as vs ds → Grid K Cl H as (v :: vs) (d :: ds)
  | own {as : List Addr} {b : Addr} {ys : List V} {es : List D} {vs : List V} {ds : List D} : H b = some (.lst ys) → Reps K Cl H (fun _ => False) ys es → noMutL es = true → b ∉ as → Grid K Cl H as vs ds → Grid K Cl H (b :: as) (.ref b :: vs) (.lst es :: ds)

inductive Lv (K : PySem.W.Frag) (Cl : ClsT) (H : Hp) (F : ASet) : Nat → V → D → List Addr → Prop
  | zero {v : V} {d : D} : Lv K Cl H F 0 v d []
  | pure {l : Nat} {v : V} {d : D} : noMut d = true → Lv K Cl H F l v d []
  | one {a : Addr} {d : D} {F' : ASet} : Own K Cl H F' a d → ¬ F' a → (∀ b, F' b → F b) → F a → Lv K Cl H F 1 (.ref a) d [a]
  | two {a : Addr} {as : List Addr} {xs : List V} {ds : List D} : H a = some (.lst xs) → Grid K Cl H as xs ds → a ∉ as → F a → (∀ b ∈ as, F b) → Lv K Cl H F 2 (.ref a) (.lst ds) (a :: as)

section
variable {K : PySem.W.Frag} {Cl : ClsT} {H H' : Hp} {F F' : ASet}
theorem Grid.go (s : Stay F H H') : ∀ {as : List Addr} {vs : List V} {ds : List D}, Grid K Cl H as vs ds → (∀ b ∈ as, F b) → Grid K Cl H' as vs ds
  | _, _, _, .nil, _ => .nil
  | _, _, _, .pure r n g, m => .pure (r.go ⟨fun _ _ h => h.elim, s.tup, s.frz, s.xd⟩ fun _ h => h) n (g.go s m)
  | _, _, _, .own h r n k g, m => .own (s.at_ _ _ (m _ List.mem_cons_self) h) (r.go ⟨fun _ _ h => h.elim, s.tup, s.frz, s.xd⟩ fun _ h => h) n k (g.go s fun b hb => m b (List.mem_cons_of_mem _ hb))
theorem Grid.reps : ∀ {as : List Addr} {vs : List V} {ds : List D}, Grid K Cl H as vs ds → Reps K Cl H (fun b => b ∈ as) vs ds
  | _, _, _, .nil => .nil
  | _, _, _, .pure r n g => .cons (r.pure n) g.reps
  | _, _, _, .own h r n k g => .cons (.lst h List.mem_cons_self (r.pure n)) (g.reps.mono fun b hb => List.mem_cons_of_mem _ hb)
theorem Grid.there : ∀ {as : List Addr} {vs : List V} {ds : List D}, Grid K Cl H as vs ds → ∀ b ∈ as, ∃ ys, H b = some (.lst ys)
  | _, _, _, .nil, b, hb => by cases hb
  | _, _, _, .pure r n g, b, hb => g.there b hb
  | _, _, _, .own h r n k g, b, hb => by
    rcases List.mem_cons.mp hb with rfl | hb
    · exact ⟨_, h⟩
    · exact g.there b hb
theorem Lv.go {l : Nat} {v : V} {d : D} {ow : List Addr} (x : Lv K Cl H F l v d ow) (s : Stay F H H') (m : ∀ a, F a → F' a) : Lv K Cl H' F' l v d ow := by
  cases x with
  | zero => exact .zero
  | pure n => exact .pure n
  | one o n k f => exact .one (o.go ⟨fun b _ h => s.at_ b _ (k b h), s.tup, s.frz, s.xd⟩ fun _ e => s.at_ _ _ f e) n (fun b hb => m b (k b hb)) (m _ f)
  | two h g n f k => exact .two (s.at_ _ _ f h) (g.go s k) n (m _ f) (fun b hb => m b (k b hb))
theorem Lv.same {l : Nat} {v : V} {d : D} {ow : List Addr} (x : Lv K Cl H F l v d ow) (s : Same H H') : Lv K Cl H' F l v d ow := x.go (.of_same s) fun _ h => h
/-- the top alone -/
theorem Lv.top {l : Nat} {v : V} {d : D} {ow : List Addr} (x : Lv K Cl H F l v d ow) (hl : 1 ≤ l) (n : noMut d = false) : ∃ a F', v = .ref a ∧ Own K Cl H F' a d ∧ ¬ F' a ∧ (∀ b, F' b → F b) ∧ F a ∧ a ∈ ow := by
  cases x with
  | zero => exact absurd hl (by decide)
  | pure n' => rw [n] at n'; cases n'
  | one o n k f => exact ⟨_, _, rfl, o, n, k, f, List.mem_cons_self⟩
  | two h g n' f k => exact ⟨_, _, rfl, .lst h g.reps, n', fun b hb => k b hb, f, List.mem_cons_self⟩
theorem Lv.kind {l : Nat} {v : V} {d : D} {ow : List Addr} (x : Lv K Cl H F l v d ow) : ∀ b ∈ ow, ∃ o, H b = some o ∧ (∀ xs, o ≠ .tup xs) ∧ NoFx o := by
  cases x with
  | zero => intro b hb; cases hb
  | pure n => intro b hb; cases hb
  | one o n k f => intro b hb; rw [List.mem_singleton] at hb; subst hb; exact o.there
  | two h g n f k =>
    intro b hb
    rcases List.mem_cons.mp hb with rfl | hb
    · exact ⟨_, h, (fun _ z => by cases z), ⟨(fun _ _ z => by cases z), fun _ z => by cases z⟩⟩
    · obtain ⟨ys, e⟩ := g.there b hb
      exact ⟨_, e, (fun _ z => by cases z), ⟨(fun _ _ z => by cases z), fun _ z => by cases z⟩⟩
theorem Lv.sub {l : Nat} {v : V} {d : D} {ow : List Addr} (x : Lv K Cl H F l v d ow) : ∀ b ∈ ow, F b := by
  cases x with
  | zero => intro b hb; cases hb
  | pure n => intro b hb; cases hb
  | one o n k f => intro b hb; rw [List.mem_singleton] at hb; subst hb; exact f
  | two h g n f k =>
    intro b hb
    rcases List.mem_cons.mp hb with rfl | hb
    · exact f
    · exact k b hb
end

/-- a value behind an expression that began at Hs -/
def ValOk (K : PySem.W.Frag) (Cl : ClsT) (Hs H : Hp) (Fs : Nat → ASet) (v : V) (r : Rv) : Prop :=
  ∃ (F : ASet) (ow : List Addr), Rep K Cl H F v r.d ∧ (∀ a, F a → H a ≠ none) ∧ (∀ a, F a → Hs a = none ∨ ∃ j ∈ r.al, Fs j a) ∧ Lv K Cl H F r.l v r.d ow ∧ ∀ a ∈ ow, Hs a = none
def RetOk (K : PySem.W.Frag) (Cl : ClsT) (H0 H : Hp) (G : ASet) (v : V) (d : D) (l : Nat) : Prop :=
  ∃ (F : ASet) (ow : List Addr), Rep K Cl H F v d ∧ (∀ a, F a → H a ≠ none) ∧ (∀ a, F a → H0 a = none ∨ G a) ∧ Lv K Cl H F l v d ow ∧ ∀ a ∈ ow, H0 a = none
/-- the slots -/
structure StOk (K : PySem.W.Frag) (Cl : ClsT) (H0 : Hp) (G : ASet) (σ : L2.St) (H : Hp) (env : Ev) (Fs : Nat → ASet) (ow : Nat → List Addr) : Prop where
  same : Same H0 H
  len : env.length = σ.length
  val : ∀ i fl d, env[i]? = some (some (fl, d)) → ∃ v, σ[i]? = some (some v) ∧ Rep K Cl H (Fs i) v d ∧ Lv K Cl H (Fs i) fl v d (ow i)
  trk : ∀ i a, Fs i a → H a ≠ none
  base : ∀ i a, Fs i a → H0 a = none ∨ G a
  own : ∀ i, ∀ a ∈ ow i, Fs i a ∧ H0 a = none ∧ ∀ j, j ≠ i → ¬ Fs j a
  kind : ∀ i, ∀ a ∈ ow i, ∃ o, H a = some o ∧ (∀ xs, o ≠ .tup xs) ∧ NoFx o
  fin : ∀ i a, Fs i a → i < env.length
def Ow (ow : Nat → List Addr) (a : Addr) : Prop := ∃ i, a ∈ ow i
/-- from one state to a later one -/
structure Stp (H : Hp) (ow : Nat → List Addr) (H' : Hp) (ow' : Nat → List Addr) : Prop where
  keep : ∀ a o, H a = some o → ¬ Ow ow a → H' a = some o
  own : ∀ a, Ow ow' a → Ow ow a ∨ H a = none
theorem Stp.refl (H : Hp) (ow : Nat → List Addr) : Stp H ow H ow := ⟨fun _ _ e _ => e, fun _ h => .inl h⟩
theorem Stp.trans {H H1 H2 : Hp} {w w1 w2 : Nat → List Addr} (a : Stp H w H1 w1) (b : Stp H1 w1 H2 w2) : Stp H w H2 w2 := by
  have nw : ∀ c o, H c = some o → ¬ Ow w c → ¬ Ow w1 c := fun c o e n h => by
    rcases a.own c h with h | h
    · exact n h
    · rw [h] at e; cases e
  refine ⟨fun c o e n => b.keep c o (a.keep c o e n) (nw c o e n), fun c h => ?_⟩
  rcases b.own c h with h | h
  · exact a.own c h
  · by_cases q : Ow w c
    · exact .inl q
    · cases e : H c with
      | none => exact .inr rfl
      | some o => rw [a.keep c o e q] at h; cases h
theorem Stp.of_same {H H' : Hp} {w w' : Nat → List Addr} (s : Same H H') (h : ∀ a, Ow w' a → Ow w a ∨ H a = none) : Stp H w H' w' := ⟨fun a o e _ => s a o e, h⟩
theorem same_none {H H' : Hp} (s : Same H H') {a : Addr} (h : H' a = none) : H a = none := s.free h

section
variable {K : PySem.W.Frag} {Cl : ClsT} {H0 Hs H H' : Hp} {G : ASet} {σ : L2.St} {env : Ev} {Fs : Nat → ASet} {ow : Nat → List Addr} {v : V} {r : Rv}
theorem ValOk.same (x : ValOk K Cl Hs H Fs v r) (s : Same H H') : ValOk K Cl Hs H' Fs v r := by
  obtain ⟨F, w, h1, h2, h3, h4, h5⟩ := x
  refine ⟨F, w, h1.same s, fun a f => ?_, h3, h4.same s, h5⟩
  have := h2 a f
  cases e : H a with
  | none => exact absurd e this
  | some o => rw [s a o e]; intro z; cases z
/-- an earlier start -/
theorem ValOk.from {H1 : Hp} (x : ValOk K Cl H1 H Fs v r) (s : Same Hs H1) : ValOk K Cl Hs H Fs v r := by
  obtain ⟨F, w, h1, h2, h3, h4, h5⟩ := x
  exact ⟨F, w, h1, h2, fun a f => (h3 a f).elim (fun h => .inl (s.free h)) .inr, h4, fun a ha => s.free (h5 a ha)⟩
theorem StOk.go (x : StOk K Cl H0 G σ H env Fs ow) (s : Same H H') : StOk K Cl H0 G σ H' env Fs ow := by
  refine ⟨x.same.trans s, x.len, fun i fl d e => ?_, fun i a f z => ?_, x.base, x.own, fun i a h => ?_, x.fin⟩
  · obtain ⟨v, h1, h2, h3⟩ := x.val i fl d e
    exact ⟨v, h1, h2.same s, h3.same s⟩
  · exact x.trk i a f (s.free z)
  · obtain ⟨o, e, k⟩ := x.kind i a h
    exact ⟨o, s a o e, k⟩
theorem ValOk.pureV {d : D} {l : Nat} (h : Rep K Cl H (fun _ => False) v d) (n : noMut d = true) : ValOk K Cl Hs H Fs v ⟨d, l, []⟩ :=
  ⟨fun _ => False, [], h, fun _ f => f.elim, fun _ f => f.elim, .pure n, fun _ h => by cases h⟩
theorem ValOk.rep (x : ValOk K Cl Hs H Fs v r) : ∃ F, Rep K Cl H F v r.d := let ⟨F, _, h, _⟩ := x; ⟨F, h⟩
end

/-- a thing without lists is its own -/
def nrm (r : Rv) : Rv := if noMut r.d then ⟨r.d, 2, []⟩ else r
theorem ValOk.nrm {K : PySem.W.Frag} {Cl : ClsT} {Hs H : Hp} {Fs : Nat → ASet} {v : V} {r : Rv} (x : ValOk K Cl Hs H Fs v r) : ValOk K Cl Hs H Fs v (nrm r) := by
  unfold VL.nrm
  by_cases h : noMut r.d = true
  · rw [if_pos h]
    obtain ⟨F, h1⟩ := x.rep
    exact .pureV (h1.pure h) h
  · rw [if_neg h]; exact x

/-- an expression -/
def VEok (X : Cx) (Cl : ClsT) (e : Expr) (f : VE) : Prop := ∃ t, PE X e t ∧ ∀ (H0 : Hp) (G : ASet) (σ : L2.St) (H : Hp) (env : Ev) (Fs : Nat → ASet) (ow : Nat → List Addr) (r : Rv) (Q : VK), StOk X.K Cl H0 G σ H env Fs ow → f env = some r →
  (∀ v H', Same H H' → ValOk X.K Cl H H' Fs v r → Q v H') → t σ H Q
/-- a test -/
abbrev VT := Ev → Option Bool
def VTok (X : Cx) (Cl : ClsT) (e : Expr) (f : VT) : Prop := ∃ t, PT X e t ∧ ∀ (H0 : Hp) (G : ASet) (σ : L2.St) (H : Hp) (env : Ev) (Fs : Nat → ASet) (ow : Nat → List Addr) (b : Bool) (Q : Bool → Hp → Prop), StOk X.K Cl H0 G σ H env Fs ow → f env = some b →
  (∀ H', Same H H' → Q b H') → t σ H Q
def VWok (X : Cx) (Cl : ClsT) (e : Expr) (f : VT) : Prop := ∃ t, PW X e t ∧ ∀ (H0 : Hp) (G : ASet) (σ : L2.St) (H : Hp) (env : Ev) (Fs : Nat → ASet) (ow : Nat → List Addr) (b : Bool) (Q : Bool → Hp → Prop), StOk X.K Cl H0 G σ H env Fs ow → f env = some b →
  (∀ H', Same H H' → Q b H') → t σ H Q
/-- several values, one behind another -/
def ValsOk (K : PySem.W.Frag) (Cl : ClsT) (Hs H : Hp) (Fs : Nat → ASet) : List V → List Rv → Prop
  | [], [] => True
  | v :: vs, r :: rs => ∃ H1, Same Hs H1 ∧ Same H1 H ∧ ValOk K Cl Hs H1 Fs v r ∧ ValsOk K Cl H1 H Fs vs rs
  | _, _ => False
abbrev VA := Ev → Option (List Rv)
def VAok (X : Cx) (Cl : ClsT) (es : List Expr) (f : VA) : Prop := ∃ t, PA X es t ∧ ∀ (H0 : Hp) (G : ASet) (σ : L2.St) (H : Hp) (env : Ev) (Fs : Nat → ASet) (ow : Nat → List Addr) (rs : List Rv) (Q : List V → Hp → Prop), StOk X.K Cl H0 G σ H env Fs ow → f env = some rs →
  (∀ vs H', Same H H' → ValsOk X.K Cl H H' Fs vs rs → Q vs H') → t σ H Q

/-! ### statements -/
inductive Rs where
  | nx (e : Ev) | bk (e : Ev) | ct (e : Ev) | ret (d : D) (l : Nat) | ex (e : Ev) (c : Nat) (fs : List (Str × D)) | no
/-- an exception of the class with number c, its fields -/
def ExcIs (K : PySem.W.Frag) (Cl : ClsT) (H : Hp) (cls : Value) (d : Option Addr) (c : Nat) (fs : List (Str × D)) : Prop :=
  ∃ C, Cl c = some C ∧ cls = .ref C ∧ (∀ p ∈ fs, noMut p.2 = true) ∧ ((fs = [] ∧ d = none) ∨ ∃ dd vs, d = some dd ∧ H dd = some (.xd vs) ∧ RepF K Cl H (fun _ => False) vs fs)
abbrev VS := Ev → Rs
def EndOk (K : PySem.W.Frag) (Cl : ClsT) (W : WX) (H0 : Hp) (G : ASet) (D : Ends) (H : Hp) (ow : Nat → List Addr) : Rs → Prop
  | .nx e => ∀ σ' H' Fs' ow', Stp H ow H' ow' → StOk K Cl H0 G σ' H' e Fs' ow' → D.nx σ' H'
  | .bk e => ∀ σ' H' Fs' ow', Stp H ow H' ow' → StOk K Cl H0 G σ' H' e Fs' ow' → D.bk σ' H'
  | .ct e => ∀ σ' H' Fs' ow', Stp H ow H' ow' → StOk K Cl H0 G σ' H' e Fs' ow' → D.ct σ' H'
  | .ret d l => ∀ v H', (∀ a o, H a = some o → ¬ Ow ow a → H' a = some o) → RetOk K Cl H0 H' G v d l → D.rt v H'
  | .ex e c fs => ∀ σ' H' Fs' ow' cls d, Stp H ow H' ow' → StOk K Cl H0 G σ' H' e Fs' ow' → ExcIs K Cl H' cls d c fs → W cls d σ' H'
  | .no => False
theorem EndOk.later {K : PySem.W.Frag} {Cl : ClsT} {H0 H H1 : Hp} {G : ASet} {D : Ends} {ow ow1 : Nat → List Addr} {r : Rs} {W : WX} (h : EndOk K Cl W H0 G D H ow r) (s : Stp H ow H1 ow1) : EndOk K Cl W H0 G D H1 ow1 r := by
  cases r with
  | nx e => exact fun σ' H' Fs' ow' s' x => h σ' H' Fs' ow' (s.trans s') x
  | bk e => exact fun σ' H' Fs' ow' s' x => h σ' H' Fs' ow' (s.trans s') x
  | ct e => exact fun σ' H' Fs' ow' s' x => h σ' H' Fs' ow' (s.trans s') x
  | ret d l => exact fun v H' k x => h v H' (fun a o e n => by
      refine k a o (s.keep a o e n) fun q => ?_
      rcases s.own a q with q | q
      · exact n q
      · rw [q] at e; cases e) x
  | ex e c fs => exact fun σ' H' Fs' ow' cls d s' x => h σ' H' Fs' ow' cls d (s.trans s') x
  | no => exact h
def VSok (X : Cx) (W : WX) (Cl : ClsT) (st : Stmt) (f : VS) : Prop := ∃ t, PS X st t ∧ ∀ (H0 : Hp) (G : ASet) (D : Ends) (σ : L2.St) (H : Hp) (env : Ev) (Fs : Nat → ASet) (ow : Nat → List Addr), StOk X.K Cl H0 G σ H env Fs ow →
  EndOk X.K Cl W H0 G D H ow (f env) → t D σ H
def VBok (X : Cx) (W : WX) (Cl : ClsT) (st : List Stmt) (f : VS) : Prop := ∃ t, PSs X st t ∧ ∀ (H0 : Hp) (G : ASet) (D : Ends) (σ : L2.St) (H : Hp) (env : Ev) (Fs : Nat → ASet) (ow : Nat → List Addr), StOk X.K Cl H0 G σ H env Fs ow →
  EndOk X.K Cl W H0 G D H ow (f env) → t D σ H

def thaw (i : Nat) (e : Ev) : Ev := match e[i]? with
  | some (some (_, d)) => e.set i (some (0, d))
  | _ => e
def frz : List Nat → Ev → Ev
  | [], e => e
  | i :: al, e => frz al (thaw i e)
def put (i : Nat) (r : Rv) (e : Ev) : Ev := (frz r.al e).set i (some (r.l, r.d))

section
variable {K : PySem.W.Frag} {Cl : ClsT} {H0 Hs H H' : Hp} {G : ASet} {σ : L2.St} {env : Ev} {Fs : Nat → ASet} {ow : Nat → List Addr} {v : V} {r : Rv}
/-- what is owned, without slot i -/
def noOw (i : Nat) (ow : Nat → List Addr) : Nat → List Addr := fun j => if j = i then [] else ow j
theorem noOw_sub {i : Nat} {ow : Nat → List Addr} : ∀ j, ∀ a ∈ noOw i ow j, a ∈ ow j := fun j a h => by
  unfold noOw at h
  split at h
  · cases h
  · exact h
theorem thaw_length {i : Nat} {e : Ev} : (VL.thaw i e).length = e.length := by
  unfold VL.thaw
  split
  · rw [List.length_set]
  · rfl
theorem StOk.thaw (x : StOk K Cl H0 G σ H env Fs ow) (i : Nat) : StOk K Cl H0 G σ H (thaw i env) Fs (noOw i ow) := by
  unfold VL.thaw
  have own' : ∀ k, ∀ a ∈ noOw i ow k, Fs k a ∧ H0 a = none ∧ ∀ j, j ≠ k → ¬ Fs j a := fun k a h => x.own k a (noOw_sub k a h)
  have other : ∀ j fl d, j ≠ i → env[j]? = some (some (fl, d)) → ∃ v, σ[j]? = some (some v) ∧ Rep K Cl H (Fs j) v d ∧ Lv K Cl H (Fs j) fl v d (noOw i ow j) := fun j fl d hj e => by
    have : noOw i ow j = ow j := if_neg hj
    rw [this]; exact x.val j fl d e
  split
  · rename_i fl d e
    have hi : i < env.length := (List.getElem?_eq_some_iff.mp e).1
    refine ⟨x.same, by rw [List.length_set]; exact x.len, fun j fl' d' e' => ?_, x.trk, x.base, own', fun k a h => x.kind k a (noOw_sub k a h), fun k a f => by rw [List.length_set]; exact x.fin k a f⟩
    by_cases hj : j = i
    · subst hj
      rw [List.getElem?_set_self hi] at e'
      cases e'
      obtain ⟨v, h1, h2, h3⟩ := x.val j fl d e
      have : noOw j ow j = [] := if_pos rfl
      rw [this]
      exact ⟨v, h1, h2, .zero⟩
    · rw [List.getElem?_set_ne (fun z => hj z.symm)] at e'
      exact other j fl' d' hj e'
  · rename_i no
    refine ⟨x.same, x.len, fun j fl' d' e' => ?_, x.trk, x.base, own', fun k a h => x.kind k a (noOw_sub k a h), x.fin⟩
    by_cases hj : j = i
    · subst hj; exact absurd e' (no _ _)
    · exact other j fl' d' hj e'
def noOws : List Nat → (Nat → List Addr) → Nat → List Addr
  | [], ow => ow
  | i :: al, ow => noOws al (noOw i ow)
theorem noOws_sub : ∀ {al : List Nat} {ow : Nat → List Addr} (j : Nat), ∀ a ∈ noOws al ow j, a ∈ ow j
  | [], _, _, _, h => h
  | i :: al, ow, j, a, h => noOw_sub j a (noOws_sub (al := al) j a h)
theorem noOws_not : ∀ {al : List Nat} {ow : Nat → List Addr} {j : Nat} {a : Addr}, a ∈ noOws al ow j → j ∉ al
  | [], _, _, _, _ => by simp
  | i :: al, ow, j, a, h => by
    have h1 := noOws_not (al := al) h
    have h2 := noOws_sub (al := al) j a h
    unfold noOw at h2
    intro z
    rcases List.mem_cons.mp z with rfl | z
    · rw [if_pos rfl] at h2; cases h2
    · exact h1 z
theorem StOk.frz : ∀ {al : List Nat} {env : Ev} {ow : Nat → List Addr}, StOk K Cl H0 G σ H env Fs ow → StOk K Cl H0 G σ H (frz al env) Fs (noOws al ow)
  | [], _, _, x => x
  | i :: al, _, _, x => StOk.frz (al := al) (x.thaw i)
theorem frz_length : ∀ {al : List Nat} {e : Ev}, (VL.frz al e).length = e.length
  | [], _ => rfl
  | i :: al, e => by
    show (VL.frz al (VL.thaw i e)).length = _
    rw [frz_length, thaw_length]
def ins1 {α : Type _} (i : Nat) (x : α) (f : Nat → α) : Nat → α := fun j => if j = i then x else f j
theorem ins1_same {α : Type _} {i : Nat} {x : α} {f : Nat → α} : ins1 i x f i = x := if_pos rfl
theorem ins1_ne {α : Type _} {i j : Nat} {x : α} {f : Nat → α} (h : j ≠ i) : ins1 i x f j = f j := if_neg h
/-- a slot is stored -/
theorem StOk.put (x : StOk K Cl H0 G σ H env Fs ow) {i : Nat} (hi : i < env.length) (s : Same H H') (w : ValOk K Cl H H' Fs v r) :
    ∃ Fs' ow', Stp H ow H' ow' ∧ StOk K Cl H0 G (σ.set i (some v)) H' (put i r env) Fs' ow' := by
  obtain ⟨F, wo, h1, h2, h3, h4, h5⟩ := w
  have y := (x.frz (al := r.al)).go s
  refine ⟨ins1 i F Fs, ins1 i wo (noOws r.al ow), ?_, ?_⟩
  · refine .of_same s fun a ⟨j, hj⟩ => ?_
    by_cases e : j = i
    · subst e; rw [ins1_same] at hj; exact .inr (h5 a hj)
    · rw [ins1_ne e] at hj; exact .inl ⟨j, noOws_sub (al := r.al) j a hj⟩
  have hiσ : i < σ.length := by rw [← x.len]; exact hi
  refine ⟨y.same, by unfold VL.put; rw [List.length_set, List.length_set, frz_length]; exact x.len, fun j fl d e => ?_, fun j a f => ?_, fun j a f => ?_, fun j a ha => ?_, fun j a ha => ?_, fun j a f => ?_⟩
  · unfold VL.put at e
    by_cases hj : j = i
    · subst hj
      rw [List.getElem?_set_self (by rw [frz_length]; exact hi)] at e
      cases e
      rw [ins1_same, ins1_same]
      exact ⟨v, List.getElem?_set_self hiσ, h1, h4⟩
    · rw [List.getElem?_set_ne (fun z => hj z.symm)] at e
      rw [ins1_ne hj, ins1_ne hj, List.getElem?_set_ne (fun z => hj z.symm)]
      exact y.val j fl d e
  · by_cases hj : j = i
    · subst hj; rw [ins1_same] at f; exact h2 a f
    · rw [ins1_ne hj] at f; exact y.trk j a f
  · by_cases hj : j = i
    · subst hj
      rw [ins1_same] at f
      rcases h3 a f with h | ⟨k, _, h⟩
      · exact .inl (x.same.free h)
      · exact x.base k a h
    · rw [ins1_ne hj] at f; exact x.base j a f
  · by_cases hj : j = i
    · subst hj
      rw [ins1_same] at ha
      refine ⟨by rw [ins1_same]; exact h4.sub a ha, x.same.free (h5 a ha), fun k hk => ?_⟩
      rw [ins1_ne hk]
      exact fun f => x.trk k a f (h5 a ha)
    · rw [ins1_ne hj] at ha
      obtain ⟨q1, q2, q3⟩ := y.own j a ha
      refine ⟨by rw [ins1_ne hj]; exact q1, q2, fun k hk => ?_⟩
      by_cases hki : k = i
      · subst hki
        rw [ins1_same]
        intro f
        rcases h3 a f with h | ⟨m, hm, h⟩
        · exact x.trk j a q1 h
        · by_cases hmj : m = j
          · subst hmj; exact noOws_not ha hm
          · exact q3 m hmj h
      · rw [ins1_ne hki]; exact q3 k hk
  · by_cases hj : j = i
    · subst hj; rw [ins1_same] at ha; exact h4.kind a ha
    · rw [ins1_ne hj] at ha; exact y.kind j a ha
  · have hlen : (VL.put i r env).length = env.length := by unfold VL.put; rw [List.length_set, frz_length]
    rw [hlen]
    by_cases hj : j = i
    · subst hj; exact hi
    · rw [ins1_ne hj] at f; exact x.fin j a f
/-- what is not owned stays -/
theorem StOk.stay {H2 : Hp} {w2 : Nat → List Addr} {F : ASet} (x : StOk K Cl H0 G σ H env Fs ow) (s : Stp H ow H2 w2) (n : ∀ a, F a → ¬ Ow ow a) : Stay F H H2 := by
  have no : ∀ a o, H a = some o → ((∃ xs, o = .tup xs) ∨ (∃ p q, o = .frz p q) ∨ ∃ xs, o = .xd xs) → ¬ Ow ow a := fun a o e k ⟨i, h⟩ => by
    obtain ⟨o', e', k1, k2⟩ := x.kind i a h
    rw [e] at e'
    cases e'
    rcases k with ⟨xs, rfl⟩ | ⟨p, q, rfl⟩ | ⟨xs, rfl⟩
    · exact k1 _ rfl
    · exact k2.1 _ _ rfl
    · exact k2.2 _ rfl
  exact ⟨fun a o f e => s.keep a o e (n a f), fun a xs e => s.keep a _ e (no a _ e (.inl ⟨_, rfl⟩)), fun a o u e => s.keep a _ e (no a _ e (.inr (.inl ⟨_, _, rfl⟩))), fun a xs e => s.keep a _ e (no a _ e (.inr (.inr ⟨_, rfl⟩)))⟩
/-- a value that leans on nothing owned -/
def Sep (K : PySem.W.Frag) (Cl : ClsT) (H0 H : Hp) (G : ASet) (ow : Nat → List Addr) (F : ASet) (v : V) (d : D) : Prop :=
  Rep K Cl H F v d ∧ (∀ a, F a → H a ≠ none) ∧ (∀ a, F a → H0 a = none ∨ G a) ∧ ∀ a, F a → ¬ Ow ow a
/-- a slot is stored, of such a value -/
theorem StOk.put0 {d : D} (x : StOk K Cl H0 G σ H env Fs ow) {i : Nat} {F : ASet} (hi : i < env.length) (w : Sep K Cl H0 H G ow F v d) :
    ∃ Fs' ow', (∀ a, Ow ow' a → Ow ow a) ∧ (∀ j a, Fs' j a → Fs j a ∨ F a) ∧ StOk K Cl H0 G (σ.set i (some v)) H (env.set i (some (0, d))) Fs' ow' := by
  obtain ⟨h1, h2, h3, h4⟩ := w
  have hiσ : i < σ.length := by rw [← x.len]; exact hi
  refine ⟨ins1 i F Fs, noOw i ow, fun a ⟨j, hj⟩ => ⟨j, noOw_sub j a hj⟩, fun j a f => (by
    by_cases hj : j = i
    · subst hj; rw [ins1_same] at f; exact .inr f
    · rw [ins1_ne hj] at f; exact .inl f), x.same, by rw [List.length_set, List.length_set]; exact x.len, fun j fl d' e => ?_, fun j a f => ?_, fun j a f => ?_, fun j a ha => ?_, fun j a ha => x.kind j a (noOw_sub j a ha), fun j a f => (by
    rw [List.length_set]
    by_cases hj : j = i
    · subst hj; exact hi
    · rw [ins1_ne hj] at f; exact x.fin j a f)⟩
  · by_cases hj : j = i
    · subst hj
      rw [List.getElem?_set_self hi] at e
      cases e
      rw [ins1_same]
      have : noOw j ow j = [] := if_pos rfl
      rw [this]
      exact ⟨v, List.getElem?_set_self hiσ, h1, .zero⟩
    · rw [List.getElem?_set_ne (fun z => hj z.symm)] at e
      have : noOw i ow j = ow j := if_neg hj
      rw [this, ins1_ne hj, List.getElem?_set_ne (fun z => hj z.symm)]
      exact x.val j fl d' e
  · by_cases hj : j = i
    · subst hj; rw [ins1_same] at f; exact h2 a f
    · rw [ins1_ne hj] at f; exact x.trk j a f
  · by_cases hj : j = i
    · subst hj; rw [ins1_same] at f; exact h3 a f
    · rw [ins1_ne hj] at f; exact x.base j a f
  · have hj : j ≠ i := fun z => by
      subst z
      have : noOw j ow j = [] := if_pos rfl
      rw [this] at ha; cases ha
    have ha' := noOw_sub j a ha
    obtain ⟨q1, q2, q3⟩ := x.own j a ha'
    refine ⟨by rw [ins1_ne hj]; exact q1, q2, fun k hk => ?_⟩
    by_cases hki : k = i
    · subst hki; rw [ins1_same]; exact fun f => h4 a f ⟨j, ha'⟩
    · rw [ins1_ne hki]; exact q3 k hk
/-- behind the freezing of what a value leans on, it is such a value -/
theorem ValOk.sep {H' : Hp} (w : ValOk K Cl H H' Fs v r) (x : StOk K Cl H0 G σ H env Fs ow) : ∃ F, Sep K Cl H0 H' G (noOws r.al ow) F v r.d := by
  obtain ⟨F, wo, h1, h2, h3, h4, h5⟩ := w
  refine ⟨F, h1, h2, fun a f => ?_, fun a f ⟨j, hj⟩ => ?_⟩
  · rcases h3 a f with h | ⟨k, _, h⟩
    · exact .inl (x.same.free h)
    · exact x.base k a h
  · have hj' := noOws_sub (al := r.al) j a hj
    obtain ⟨q1, q2, q3⟩ := x.own j a hj'
    rcases h3 a f with h | ⟨k, hk, h⟩
    · exact x.trk j a q1 h
    · by_cases e : k = j
      · subst e; exact noOws_not hj hk
      · exact q3 k e h
end
end VL

namespace VL
open PySem PySem.Spec L2

theorem same_upd {H : Hp} {p : Addr} {o : HO} (h : H p = none) : Same H (upd H p o) := fun b u e => by rw [upd_ne (ne_of_none e h)]; exact e

section
variable {X : Cx} {Cl : ClsT}
/-! ### names, constants -/
def vName (i : Nat) : VE := fun env => match env[i]? with
  | some (some (_, d)) => some (nrm ⟨d, 0, [i]⟩)
  | _ => none
theorem StOk.read {K : PySem.W.Frag} {H0 H : Hp} {G : ASet} {σ : L2.St} {env : Ev} {Fs : Nat → ASet} {ow : Nat → List Addr} (S : StOk K Cl H0 G σ H env Fs ow) {i fl : Nat} {d : D} (e : env[i]? = some (some (fl, d))) :
    ∃ v, σ[i]? = some (some v) ∧ ValOk K Cl H H Fs v ⟨d, 0, [i]⟩ := by
  obtain ⟨v, h1, h2, h3⟩ := S.val i fl d e
  exact ⟨v, h1, Fs i, [], h2, S.trk i, fun a f => .inr ⟨i, List.mem_singleton.mpr rfl, f⟩, .zero, fun _ z => by cases z⟩
theorem ve_name (i : Nat) {x : Str} {pos : Pos} (hN : X.N[i]? = some x := by rfl) (hv : Vis X.env.scope x := by first | exact Or.inl rfl | exact Or.inr (Or.inl rfl) | exact Or.inr (Or.inr rfl)) (hd : (x == ("__debug__" : Str)) = false := by decide)
    (hcd : (x == ("__classdict__" : Str)) = false := by decide) : VEok X Cl (.Name x pos) (vName i) := by
  refine ⟨_, pe_var (i := i) hN hv hd hcd, fun H0 G σ H env Fs ow r Q S e k => ?_⟩
  unfold vName at e
  split at e
  · rename_i fl d e1
    obtain ⟨v, h1, h2⟩ := S.read e1
    cases e
    exact ⟨v, h1, k v H (Same.refl _) h2.nrm⟩
  · cases e
def vC (d : D) : VE := fun _ => some ⟨d, 2, []⟩
theorem ve_c {e : Expr} {v : V} {d : D} (h : PE X e (tC v)) (r : ∀ K H, Rep K Cl H (fun _ => False) v d) (n : noMut d = true) : VEok X Cl e (vC d) :=
  ⟨_, h, fun H0 G σ H env Fs ow r' Q S e k => by cases e; exact k v H (Same.refl _) (.pureV (r _ _) n)⟩
theorem ve_int {i : Int} {j pos} : VEok X Cl (.Constant (.int i) j pos) (vC (.int i)) := ve_c pe_int (fun _ _ => .int i) rfl
theorem ve_bl {b : Bool} {j pos} : VEok X Cl (.Constant (.bool b) j pos) (vC (.bl b)) := ve_c pe_bl (fun _ _ => .bl b) rfl
theorem ve_non {j pos} : VEok X Cl (.Constant .none j pos) (vC .non) := ve_c pe_non (fun _ _ => .non) rfl
theorem ve_str {x : Str} {j pos} : VEok X Cl (.Constant (.str x) j pos) (vC (.str x)) := ve_c pe_str (fun _ _ => .str x) rfl
theorem ve_glob_int {x : Str} {i : Int} {t : Tok} {pos : Pos} (hg : Gl X x) (hm : X.mg x = some (.int i t)) (hd : (x == ("__debug__" : Str)) = false := by decide) : VEok X Cl (.Name x pos) (vC (.int i)) := ve_c (pe_glob (v := .int i) hg hm ⟨_, rfl⟩ hd) (fun _ _ => .int i) rfl

/-! ### two values -/
abbrev G2 := Rv → Rv → Option Rv
def OpV (X : Cx) (Cl : ClsT) (r : R2) (g : G2) : Prop := ∀ (Hs H1 H2 : Hp) (Fs : Nat → ASet) (x y : V) (rx ry rr : Rv) (Q : VK), Same Hs H1 → Same H1 H2 → ValOk X.K Cl Hs H2 Fs x rx → ValOk X.K Cl H1 H2 Fs y ry → g rx ry = some rr →
  (∀ v H3, Same H2 H3 → ValOk X.K Cl Hs H3 Fs v rr → Q v H3) → r x y H2 Q
def v2 (g : G2) (f f' : VE) : VE := fun env => match f env with
  | some x => match f' env with
    | some y => g x y
    | none => none
  | none => none
theorem op2 {r : R2} {g : G2} {ta tb : TE} {f f' : VE} {H0 : Hp} {G : ASet} {σ : L2.St} {H : Hp} {env : Ev} {Fs : Nat → ASet} {ow : Nat → List Addr} {rr : Rv} {Q : VK} (hg : OpV X Cl r g) (S : StOk X.K Cl H0 G σ H env Fs ow)
    (a : ∀ (H0 : Hp) (G : ASet) (σ : L2.St) (H : Hp) (env : Ev) (Fs : Nat → ASet) (ow : Nat → List Addr) (r : Rv) (Q : VK), StOk X.K Cl H0 G σ H env Fs ow → f env = some r → (∀ v H', Same H H' → ValOk X.K Cl H H' Fs v r → Q v H') → ta σ H Q)
    (b : ∀ (H0 : Hp) (G : ASet) (σ : L2.St) (H : Hp) (env : Ev) (Fs : Nat → ASet) (ow : Nat → List Addr) (r : Rv) (Q : VK), StOk X.K Cl H0 G σ H env Fs ow → f' env = some r → (∀ v H', Same H H' → ValOk X.K Cl H H' Fs v r → Q v H') → tb σ H Q)
    (e : v2 g f f' env = some rr) (k : ∀ v H', Same H H' → ValOk X.K Cl H H' Fs v rr → Q v H') : ta σ H fun x H1 => tb σ H1 fun y H2 => r x y H2 Q := by
  unfold v2 at e
  split at e
  · rename_i x ex
    split at e
    · rename_i y ey
      refine a _ _ _ _ _ _ _ _ _ S ex fun v H1 s1 w1 => b _ _ _ _ _ _ _ _ _ (S.go s1) ey fun u H2 s2 w2 => ?_
      exact hg H H1 H2 Fs v u x y rr Q s1 s2 (w1.same s2) w2 e fun z H3 s3 w3 => k z H3 ((s1.trans s2).trans s3) w3
    · cases e
  · cases e
theorem ve_op {a b : Expr} {op : Operator} {pos : Pos} {r : R2} {g : G2} {f f' : VE} (ho : OpR X (binaryOp op) r) (hg : OpV X Cl r g) (ha : VEok X Cl a f) (hb : VEok X Cl b f') : VEok X Cl (.BinOp a op b pos) (v2 g f f') := by
  obtain ⟨ta, pa, qa⟩ := ha
  obtain ⟨tb, pb, qb⟩ := hb
  exact ⟨_, pe_op ho pa pb, fun H0 G σ H env Fs ow rr Q S e k => op2 hg S qa qb e k⟩
theorem ve_cmp {a b : Expr} {op : CmpOp} {pos : Pos} {r : R2} {g : G2} {f f' : VE} (ho : OpR X (compareOp op) r) (hg : OpV X Cl r g) (ha : VEok X Cl a f) (hb : VEok X Cl b f') (hm : behindInMarks op b = false) : VEok X Cl (.Compare a [op] [b] pos) (v2 g f f') := by
  obtain ⟨ta, pa, qa⟩ := ha
  obtain ⟨tb, pb, qb⟩ := hb
  exact ⟨_, pe_cmpR ho pa pb hm, fun H0 G σ H env Fs ow rr Q S e k => op2 hg S qa qb e k⟩
theorem OpV.or {r r' : R2} {g g' : G2} (h : OpV X Cl r g) (h' : OpV X Cl r' g') : OpV X Cl (fun x y H Q => r x y H Q ∨ r' x y H Q) (fun x y => match g x y with | some z => some z | none => g' x y) := by
  intro Hs H1 H2 Fs x y rx ry rr Q s1 s2 w1 w2 e k
  dsimp only at e
  split at e
  · rename_i z ez
    cases e
    exact .inl (h _ _ _ _ _ _ _ _ _ _ s1 s2 w1 w2 ez k)
  · exact .inr (h' _ _ _ _ _ _ _ _ _ _ s1 s2 w1 w2 e k)

def gI (g : Int → Int → D) : G2 := fun x y => match x.d, y.d with
  | .int i, .int j => some ⟨g i j, 2, []⟩
  | _, _ => none
theorem val_int {K : PySem.W.Frag} {Hs H : Hp} {Fs : Nat → ASet} {v : V} {r : Rv} {i : Int} (w : ValOk K Cl Hs H Fs v r) (e : r.d = .int i) : v = .int i := by
  obtain ⟨F, h⟩ := w.rep
  rw [e] at h
  exact h.int_of
theorem val_bl {K : PySem.W.Frag} {Hs H : Hp} {Fs : Nat → ASet} {v : V} {r : Rv} {i : Bool} (w : ValOk K Cl Hs H Fs v r) (e : r.d = .bl i) : v = .bl i := by
  obtain ⟨F, h⟩ := w.rep
  rw [e] at h
  exact h.bl_of
theorem val_str {K : PySem.W.Frag} {Hs H : Hp} {Fs : Nat → ASet} {v : V} {r : Rv} {i : Str} (w : ValOk K Cl Hs H Fs v r) (e : r.d = .str i) : v = .str i := by
  obtain ⟨F, h⟩ := w.rep
  rw [e] at h
  exact h.str_of
theorem val_non {K : PySem.W.Frag} {Hs H : Hp} {Fs : Nat → ASet} {v : V} {r : Rv} (w : ValOk K Cl Hs H Fs v r) (e : r.d = .non) : v = .non := by
  obtain ⟨F, h⟩ := w.rep
  rw [e] at h
  exact h.non_of
theorem opV_I {g : Int → Int → V} {g' : Int → Int → D} (h : ∀ K H i j, Rep K Cl H (fun _ => False) (g i j) (g' i j)) (n : ∀ i j, noMut (g' i j) = true) : OpV X Cl (rI0 g) (gI g') := by
  intro Hs H1 H2 Fs x y rx ry rr Q s1 s2 w1 w2 e k
  unfold gI at e
  split at e
  · rename_i i j e1 e2
    cases e
    exact ⟨i, j, val_int w1 e1, val_int w2 e2, k _ _ (Same.refl _) (.pureV (h _ _ _ _) (n i j))⟩
  · cases e
def gIC (c : Int → Int → Bool) (g : Int → Int → D) : G2 := fun x y => match x.d, y.d with
  | .int i, .int j => if c i j = true then some ⟨g i j, 2, []⟩ else none
  | _, _ => none
theorem opV_IC {C : Int → Int → Prop} {c : Int → Int → Bool} {g : Int → Int → V} {g' : Int → Int → D} (hc : ∀ i j, c i j = true → C i j) (h : ∀ K H i j, Rep K Cl H (fun _ => False) (g i j) (g' i j)) (n : ∀ i j, noMut (g' i j) = true) : OpV X Cl (rI C g) (gIC c g') := by
  intro Hs H1 H2 Fs x y rx ry rr Q s1 s2 w1 w2 e k
  unfold gIC at e
  split at e
  · rename_i i j e1 e2
    split at e
    · rename_i hcij
      cases e
      exact ⟨i, j, val_int w1 e1, val_int w2 e2, hc i j hcij, k _ _ (Same.refl _) (.pureV (h _ _ _ _) (n i j))⟩
    · cases e
  · cases e

/-! ### new lists and tuples -/
def mkL (es : List D) (al : List Nat) : Rv := if noMutL es then ⟨.lst es, 2, []⟩ else ⟨.lst es, 1, al⟩
theorem grid_pure {K : PySem.W.Frag} {H : Hp} : ∀ {vs : List V} {ds : List D} {F : ASet}, Reps K Cl H F vs ds → noMutL ds = true → Grid K Cl H [] vs ds
  | _, _, _, .nil, _ => .nil
  | _, _, _, .cons a b, n => by
    rw [noMutL, Bool.and_eq_true] at n
    exact .pure (a.pure n.1) n.1 (grid_pure b n.2)
theorem new_list {K : PySem.W.Frag} {Hs H : Hp} {Fs : Nat → ASet} {F : ASet} {xs : List V} {es : List D} {al : List Nat} {p : Addr} (s : Same Hs H) (hr : Reps K Cl H F xs es) (ht : ∀ a, F a → H a ≠ none) (hf : ∀ a, F a → Hs a = none ∨ ∃ j ∈ al, Fs j a) (hp : H p = none) :
    ValOk K Cl Hs (upd H p (.lst xs)) Fs (.ref p) (mkL es al) := by
  have s2 : Same H (upd H p (.lst xs)) := same_upd hp
  unfold mkL
  by_cases n : noMutL es = true
  · rw [if_pos n]
    refine ⟨fun a => a = p, [p], .lst upd_same rfl ((hr.same s2).pure n), fun a e => ?_, fun a e => ?_, .two upd_same (grid_pure (hr.same s2) n) (by simp) rfl (fun _ z => by cases z), fun a ha => ?_⟩
    · subst e; rw [upd_same]; intro z; cases z
    · subst e; exact .inl (s.free hp)
    · rw [List.mem_singleton] at ha; subst ha; exact s.free hp
  · rw [if_neg n]
    have np : ¬ F p := fun f => ht p f hp
    refine ⟨fun a => a = p ∨ F a, [p], .lst upd_same (.inl rfl) ((hr.same s2).mono fun a f => .inr f), fun a e => ?_, fun a e => ?_, .one (F' := F) (.lst upd_same (hr.same s2)) np (fun b f => .inr f) (.inl rfl), fun a ha => ?_⟩
    · by_cases q : a = p
      · subst q; rw [upd_same]; intro z; cases z
      · rw [upd_ne q]
        rcases e with e | e
        · exact absurd e q
        · exact ht a e
    · rcases e with e | e
      · subst e; exact .inl (s.free hp)
      · exact hf a e
    · rw [List.mem_singleton] at ha; subst ha; exact s.free hp
theorem new_tup {K : PySem.W.Frag} {Hs H : Hp} {Fs : Nat → ASet} {F : ASet} {xs : List V} {es : List D} {al : List Nat} {p : Addr} (hr : Reps K Cl H F xs es) (ht : ∀ a, F a → H a ≠ none) (hf : ∀ a, F a → Hs a = none ∨ ∃ j ∈ al, Fs j a) (hp : H p = none) :
    ValOk K Cl Hs (upd H p (.tup xs)) Fs (.ref p) (nrm ⟨.tup es, 0, al⟩) := by
  have s2 : Same H (upd H p (.tup xs)) := same_upd hp
  refine ValOk.nrm ⟨F, [], .tup (SqT.of upd_same) (hr.same s2), fun a f => ?_, hf, .zero, fun _ z => by cases z⟩
  have := ht a f
  cases e : H a with
  | none => exact absurd e this
  | some o => rw [s2 a o e]; intro z; cases z

/-! ### arguments and displays -/
theorem va_nil : VAok X Cl [] (fun _ => some []) := ⟨_, pa_nil, fun H0 G σ H env Fs ow rs Q S e k => by cases e; exact k [] H (Same.refl _) trivial⟩
def vCons (f : VE) (g : VA) : VA := fun env => match f env with
  | some x => match g env with
    | some xs => some (x :: xs)
    | none => none
  | none => none
theorem va_cons {e : Expr} {es : List Expr} {f : VE} {g : VA} (ha : VEok X Cl e f) (hr : VAok X Cl es g) (hs : starEach (e :: es) X.env = (false, eval e X.env) :: starEach es X.env := by rfl) : VAok X Cl (e :: es) (vCons f g) := by
  obtain ⟨ta, pa, qa⟩ := ha
  obtain ⟨tr, pr, qr⟩ := hr
  refine ⟨_, pa_cons pa pr hs, fun H0 G σ H env Fs ow rs Q S e k => ?_⟩
  unfold vCons at e
  split at e
  · rename_i x ex
    split at e
    · rename_i xs exs
      cases e
      refine qa _ _ _ _ _ _ _ _ _ S ex fun v H1 s1 w1 => qr _ _ _ _ _ _ _ _ _ (S.go s1) exs fun vs H2 s2 w2 => k _ _ (s1.trans s2) ⟨H1, s1, s2, w1, w2⟩
    · cases e
  · cases e
end
theorem ValsOk.length {K : PySem.W.Frag} {Cl : ClsT} {H : Hp} {Fs : Nat → ASet} : ∀ {vs : List V} {rs : List Rv} {Hs : Hp}, ValsOk K Cl Hs H Fs vs rs → vs.length = rs.length
  | [], [], _, _ => rfl
  | v :: vs, r :: rs, _, ⟨_, _, _, _, h⟩ => by rw [List.length_cons, List.length_cons, ValsOk.length h]
  | [], _ :: _, _, h => h.elim
  | _ :: _, [], _, h => h.elim
def dsOf (rs : List Rv) : List D := rs.map (·.d)
def alOf (rs : List Rv) : List Nat := rs.flatMap (·.al)
theorem ValsOk.reps {K : PySem.W.Frag} {Cl : ClsT} {H : Hp} {Fs : Nat → ASet} : ∀ {vs : List V} {rs : List Rv} {Hs : Hp}, ValsOk K Cl Hs H Fs vs rs →
    ∃ F : ASet, Reps K Cl H F vs (dsOf rs) ∧ (∀ a, F a → H a ≠ none) ∧ ∀ a, F a → Hs a = none ∨ ∃ j ∈ alOf rs, Fs j a
  | [], [], _, _ => ⟨fun _ => False, .nil, fun _ f => f.elim, fun _ f => f.elim⟩
  | v :: vs, r :: rs, Hs, ⟨H1, s1, s2, w, h⟩ => by
    obtain ⟨F2, r2, t2, f2⟩ := ValsOk.reps h
    obtain ⟨F1, _, r1, t1, f1, _, _⟩ := w.same s2
    refine ⟨fun a => F1 a ∨ F2 a, .cons (r1.mono fun _ => .inl) (r2.mono fun _ => .inr), fun a f => f.elim (t1 a) (t2 a), fun a f => ?_⟩
    have mem : ∀ j, j ∈ alOf (r :: rs) ↔ j ∈ r.al ∨ j ∈ alOf rs := fun j => by unfold alOf; rw [List.flatMap_cons, List.mem_append]
    rcases f with f | f
    · rcases f1 a f with h | ⟨j, hj, h⟩
      · exact .inl h
      · exact .inr ⟨j, (mem j).mpr (.inl hj), h⟩
    · rcases f2 a f with h | ⟨j, hj, h⟩
      · exact .inl (s1.free h)
      · exact .inr ⟨j, (mem j).mpr (.inr hj), h⟩
  | [], _ :: _, _, h => h.elim
  | _ :: _, [], _, h => h.elim
def gridChild (r : Rv) : Bool := noMut r.d || (decide (1 ≤ r.l) && isFlat r.d)
theorem isFlat_of {d : D} (h : isFlat d = true) : ∃ es, d = .lst es ∧ noMutL es = true := by
  cases d with
  | lst es => exact ⟨es, rfl, h⟩
  | _ => cases h
theorem ValsOk.grid {K : PySem.W.Frag} {Cl : ClsT} {H : Hp} {Fs : Nat → ASet} : ∀ {vs : List V} {rs : List Rv} {Hs : Hp}, ValsOk K Cl Hs H Fs vs rs → rs.all gridChild = true → ∃ as, Grid K Cl H as vs (dsOf rs) ∧ ∀ b ∈ as, Hs b = none
  | [], [], _, _, _ => ⟨[], .nil, fun _ z => by cases z⟩
  | v :: vs, r :: rs, Hs, ⟨H1, s1, s2, w, h⟩, g => by
    rw [List.all_cons, Bool.and_eq_true] at g
    obtain ⟨as, ga, fa⟩ := ValsOk.grid h g.2
    by_cases n : noMut r.d = true
    · obtain ⟨F, q⟩ := (w.same s2).rep
      exact ⟨as, .pure (q.pure n) n ga, fun b hb => s1.free (fa b hb)⟩
    · have g1 : (decide (1 ≤ r.l) && isFlat r.d) = true := by
        have := g.1
        unfold gridChild at this
        rw [Bool.or_eq_true] at this
        exact this.resolve_left n
      rw [Bool.and_eq_true, decide_eq_true_eq] at g1
      obtain ⟨es, ed, ne⟩ := isFlat_of g1.2
      obtain ⟨F, ow, q1, q2, q3, q4, q5⟩ := w
      obtain ⟨b, F', rfl, own, _, _, _, hb⟩ := q4.top g1.1 (by cases e : noMut r.d with | false => rfl | true => exact absurd e n)
      have own2 := own.go (.of_same s2) fun o e => s2 b o e
      rw [ed] at own2
      cases own2 with
      | lst hl hr =>
        have hb1 : H1 b ≠ none := q2 b (q4.sub b hb)
        refine ⟨b :: as, ?_, fun c hc => ?_⟩
        · show Grid K Cl H (b :: as) _ (r.d :: dsOf rs)
          rw [ed]
          exact .own hl (hr.pure ne) ne (fun z => hb1 (fa b z)) ga
        · rcases List.mem_cons.mp hc with rfl | hc
          · exact q5 _ hb
          · exact s1.free (fa c hc)
  | [], _ :: _, _, h, _ => h.elim
  | _ :: _, [], _, h, _ => h.elim

section
variable {X : Cx} {Cl : ClsT}
def lstRv (rs : List Rv) : Rv := if rs.all gridChild then ⟨.lst (dsOf rs), 2, []⟩ else ⟨.lst (dsOf rs), 1, alOf rs⟩
theorem lst_made {K : PySem.W.Frag} {Hs H : Hp} {Fs : Nat → ASet} {vs : List V} {rs : List Rv} {p : Addr} (s : Same Hs H) (w : ValsOk K Cl Hs H Fs vs rs) (hp : H p = none) : ValOk K Cl Hs (upd H p (.lst vs)) Fs (.ref p) (lstRv rs) := by
  unfold lstRv
  have s2 : Same H (upd H p (.lst vs)) := same_upd hp
  by_cases g : rs.all gridChild = true
  · rw [if_pos g]
    obtain ⟨as, ga, fa⟩ := w.grid g
    have np : p ∉ as := fun z => by obtain ⟨ys, e⟩ := ga.there p z; rw [hp] at e; cases e
    have gb : Grid K Cl (upd H p (.lst vs)) as vs (dsOf rs) := ga.go (F := fun _ => True) (.of_same s2) fun _ _ => trivial
    refine ⟨fun a => a = p ∨ a ∈ as, p :: as, .lst upd_same (.inl rfl) (gb.reps.mono fun b hb => .inr hb), fun a e => ?_, fun a e => ?_, .two upd_same gb np (.inl rfl) (fun b hb => .inr hb), fun a ha => ?_⟩
    · rcases e with e | e
      · subst e; rw [upd_same]; intro z; cases z
      · obtain ⟨ys, e'⟩ := gb.there a e; rw [e']; intro z; cases z
    · rcases e with e | e
      · subst e; exact .inl (s.free hp)
      · exact .inl (fa a e)
    · rcases List.mem_cons.mp ha with rfl | ha
      · exact s.free hp
      · exact fa a ha
  · rw [if_neg g]
    obtain ⟨F, r, t, f⟩ := w.reps
    have n : ¬ noMutL (dsOf rs) = true := fun z => g (List.all_eq_true.mpr fun r hr => by
      unfold gridChild
      rw [noMutL_mem z r.d (List.mem_map.mpr ⟨r, hr, rfl⟩)]
      rfl)
    have := new_list (Fs := Fs) (al := alOf rs) (p := p) s r t f hp
    unfold mkL at this
    rw [if_neg n] at this
    exact this
def vLst (g : VA) : VE := fun env => match g env with
  | some rs => if rs.length ≤ 1000 then some (lstRv rs) else none
  | none => none
def vTup (g : VA) : VE := fun env => match g env with
  | some rs => if rs.length ≤ 1000 then some (nrm ⟨.tup (dsOf rs), 0, alOf rs⟩) else none
  | none => none
theorem small_line {n : Nat} (h : n ≤ 1000) : n ≤ sizeLine := Nat.le_of_lt (small1000 h)
theorem ve_lst {es : List Expr} {pos : Pos} {g : VA} (h : VAok X Cl es g) : VEok X Cl (.List es pos) (vLst g) := by
  obtain ⟨t, p, q⟩ := h
  refine ⟨_, pe_lst p, fun H0 G σ H env Fs ow r Q S e k => ?_⟩
  unfold vLst at e
  split at e
  · rename_i rs ers
    split at e
    · rename_i hl
      cases e
      refine q _ _ _ _ _ _ _ _ _ S ers fun vs H1 s1 w => ⟨by rw [w.length]; exact small_line hl, fun a ha => k _ _ (s1.trans (same_upd ha)) (lst_made s1 w ha)⟩
    · cases e
  · cases e
theorem ve_tup {es : List Expr} {x1 : Nat} {pos : Pos} {g : VA} (h : VAok X Cl es g) : VEok X Cl (.Tuple es x1 pos) (vTup g) := by
  obtain ⟨t, p, q⟩ := h
  refine ⟨_, pe_tup p, fun H0 G σ H env Fs ow r Q S e k => ?_⟩
  unfold vTup at e
  split at e
  · rename_i rs ers
    split at e
    · rename_i hl
      cases e
      refine q _ _ _ _ _ _ _ _ _ S ers fun vs H1 s1 w => ⟨by rw [w.length]; exact small_line hl, fun a ha => ?_⟩
      obtain ⟨F, r, t, f⟩ := w.reps
      exact k _ _ (s1.trans (same_upd ha)) (new_tup r t f ha)
    · cases e
  · cases e
end
end VL

namespace VL
open PySem PySem.Spec L2

section
variable {X : Cx} {Cl : ClsT}
/-! ### operators of whole numbers -/
theorem ov_add : OpV X Cl (rI0 fun i j => .int (i + j)) (gI fun i j => .int (i + j)) := opV_I (fun _ _ _ _ => .int _) fun _ _ => rfl
theorem ov_sub : OpV X Cl (rI0 fun i j => .int (i - j)) (gI fun i j => .int (i - j)) := opV_I (fun _ _ _ _ => .int _) fun _ _ => rfl
def cMul (i j : Int) : Bool := (decide (-(2 ^ 64) < i) && decide (i < 2 ^ 64)) || (decide (-(2 ^ 64) < j) && decide (j < 2 ^ 64))
theorem ov_mul : OpV X Cl (rI CMul fun i j => .int (i * j)) (gIC cMul fun i j => .int (i * j)) := opV_IC (fun i j h => by
  unfold cMul at h
  simp only [Bool.or_eq_true, Bool.and_eq_true, decide_eq_true_eq] at h
  exact h) (fun _ _ _ _ => .int _) fun _ _ => rfl
theorem ov_mod : OpV X Cl (rI (fun _ j => 0 < j) fun i j => .int (i % j)) (gIC (fun _ j => decide (0 < j)) fun i j => .int (i % j)) := opV_IC (fun i j h => by simpa using h) (fun _ _ _ _ => .int _) fun _ _ => rfl
theorem ov_fdiv : OpV X Cl (rI CDiv fun i j => .int (i / j)) (gIC (fun _ j => decide (0 < j) && decide (j < 1073741824)) fun i j => .int (i / j)) := opV_IC (fun i j h => by simpa [CDiv] using h) (fun _ _ _ _ => .int _) fun _ _ => rfl
theorem ov_pow : OpV X Cl (rI CPow fun i j => .int (i ^ j.toNat)) (gIC (fun i j => decide (0 ≤ j) && (decide (j ≤ 1000000) && decide (i.natAbs < 2 ^ 64))) fun i j => .int (i ^ j.toNat)) := opV_IC (fun i j h => by simpa [CPow] using h) (fun _ _ _ _ => .int _) fun _ _ => rfl
theorem ov_lt : OpV X Cl (rI0 fun i j => .bl (decide (i < j))) (gI fun i j => .bl (decide (i < j))) := opV_I (fun _ _ _ _ => .bl _) fun _ _ => rfl
theorem ov_le : OpV X Cl (rI0 fun i j => .bl (decide (i ≤ j))) (gI fun i j => .bl (decide (i ≤ j))) := opV_I (fun _ _ _ _ => .bl _) fun _ _ => rfl
theorem ov_gt : OpV X Cl (rI0 fun i j => .bl (decide (j < i))) (gI fun i j => .bl (decide (j < i))) := opV_I (fun _ _ _ _ => .bl _) fun _ _ => rfl
theorem ov_ge : OpV X Cl (rI0 fun i j => .bl (decide (j ≤ i))) (gI fun i j => .bl (decide (j ≤ i))) := opV_I (fun _ _ _ _ => .bl _) fun _ _ => rfl

/-! ### sums of lists, of tuples, of texts; lists repeated -/
def gCat : G2 := fun x y => match x.d, y.d with
  | .lst xs, .lst ys => if xs.length + ys.length ≤ 16777216 then some (mkL (xs ++ ys) (x.al ++ y.al)) else none
  | _, _ => none
theorem two_reps {K : PySem.W.Frag} {Hs H1 H2 : Hp} {Fs : Nat → ASet} {x y : V} {rx ry : Rv} (s1 : Same Hs H1) (w1 : ValOk K Cl Hs H2 Fs x rx) (w2 : ValOk K Cl H1 H2 Fs y ry) :
    ∃ F : ASet, Rep K Cl H2 F x rx.d ∧ Rep K Cl H2 F y ry.d ∧ (∀ a, F a → H2 a ≠ none) ∧ ∀ a, F a → Hs a = none ∨ ∃ j ∈ rx.al ++ ry.al, Fs j a := by
  obtain ⟨F1, _, r1, t1, f1, _⟩ := w1
  obtain ⟨F2, _, r2, t2, f2, _⟩ := w2
  refine ⟨fun a => F1 a ∨ F2 a, r1.mono fun _ => .inl, r2.mono fun _ => .inr, fun a f => f.elim (t1 a) (t2 a), fun a f => ?_⟩
  rcases f with f | f
  · rcases f1 a f with h | ⟨j, hj, h⟩
    · exact .inl h
    · exact .inr ⟨j, List.mem_append_left _ hj, h⟩
  · rcases f2 a f with h | ⟨j, hj, h⟩
    · exact .inl (s1.free h)
    · exact .inr ⟨j, List.mem_append_right _ hj, h⟩
theorem line_eq {n : Nat} (h : n ≤ 16777216) : n ≤ sizeLine := by rw [sizeLine_eq]; exact h
theorem ov_cat : OpV X Cl rCat gCat := by
  intro Hs H1 H2 Fs x y rx ry rr Q s1 s2 w1 w2 e k
  unfold gCat at e
  split at e
  · rename_i xs ys e1 e2
    split at e
    · rename_i hl
      cases e
      obtain ⟨F, r1, r2, t, f⟩ := two_reps s1 w1 w2
      rw [e1] at r1
      rw [e2] at r2
      obtain ⟨a, us, rfl, ha, fa, ra⟩ := r1.lst_of
      obtain ⟨b, vs, rfl, hb, fb, rb⟩ := r2.lst_of
      exact ⟨a, b, us, vs, rfl, rfl, ha, hb, line_eq (by rw [ra.length, rb.length]; exact hl), fun p hp => k _ _ (same_upd hp) (new_list (s1.trans s2) (ra.append rb) t f hp)⟩
    · cases e
  · cases e
def gCatT : G2 := fun x y => match x.d, y.d with
  | .tup xs, .tup ys => if xs.length + ys.length ≤ 16777216 then some (nrm ⟨.tup (xs ++ ys), 0, x.al ++ y.al⟩) else none
  | _, _ => none
theorem ov_catT : OpV X Cl (rCatA X.K) gCatT := by
  intro Hs H1 H2 Fs x y rx ry rr Q s1 s2 w1 w2 e k
  unfold gCatT at e
  split at e
  · rename_i xs ys e1 e2
    split at e
    · rename_i hl
      cases e
      obtain ⟨F, r1, r2, t, f⟩ := two_reps s1 w1 w2
      rw [e1] at r1
      rw [e2] at r2
      obtain ⟨a, us, rfl, ha, ra⟩ := r1.tup_of
      obtain ⟨b, vs, rfl, hb, rb⟩ := r2.tup_of
      refine ⟨a, b, us, vs, rfl, rfl, ha, hb, line_eq (by rw [ra.length, rb.length]; exact hl), fun z => ?_, fun z z2 => ?_, fun _ _ p hp => k _ _ (same_upd hp) (new_tup (ra.append rb) t f hp)⟩
      · subst z
        cases ra
        exact k _ _ (Same.refl _) (.nrm ⟨F, [], .tup hb rb, t, f, .zero, fun _ z => by cases z⟩)
      · subst z2
        cases rb
        refine k _ _ (Same.refl _) (.nrm ⟨F, [], .tup ha ?_, t, f, .zero, fun _ z => by cases z⟩)
        rw [List.append_nil]; exact ra
    · cases e
  · cases e
def gCatS : G2 := fun x y => match x.d, y.d with
  | .str xs, .str ys => if xs.length + ys.length ≤ 16777216 then some ⟨.str (xs ++ ys), 2, []⟩ else none
  | _, _ => none
theorem ov_catS : OpV X Cl (fun x y H Q => ∃ i j, x = .str i ∧ y = .str j ∧ i.length + j.length ≤ sizeLine ∧ Q (.str (i ++ j)) H) gCatS := by
  intro Hs H1 H2 Fs x y rx ry rr Q s1 s2 w1 w2 e k
  unfold gCatS at e
  split at e
  · rename_i xs ys e1 e2
    split at e
    · rename_i hl
      cases e
      exact ⟨xs, ys, val_str w1 e1, val_str w2 e2, line_eq hl, k _ _ (Same.refl _) (.pureV (.str _) rfl)⟩
    · cases e
  · cases e
/-- + of any of these -/
def gAdd : G2 := fun x y => match gI (fun i j => .int (i + j)) x y with
  | some z => some z
  | none => match gCat x y with
    | some z => some z
    | none => match gCatT x y with
      | some z => some z
      | none => gCatS x y
theorem ve_add {a b : Expr} {pos : Pos} {f f' : VE} (ha : VEok X Cl a f) (hb : VEok X Cl b f') : VEok X Cl (.BinOp a .Add b pos) (v2 gAdd f f') :=
  ve_op (op_add.or (op_cat.or (op_catA.or op_add_str))) (ov_add.or (ov_cat.or (ov_catT.or ov_catS))) ha hb
theorem ve_sub {a b : Expr} {pos : Pos} {f f' : VE} (ha : VEok X Cl a f) (hb : VEok X Cl b f') : VEok X Cl (.BinOp a .Sub b pos) (v2 (gI fun i j => .int (i - j)) f f') := ve_op op_sub ov_sub ha hb
theorem ve_mod {a b : Expr} {pos : Pos} {f f' : VE} (ha : VEok X Cl a f) (hb : VEok X Cl b f') : VEok X Cl (.BinOp a .Mod b pos) (v2 (gIC (fun _ j => decide (0 < j)) fun i j => .int (i % j)) f f') := ve_op op_mod ov_mod ha hb
theorem ve_fdiv {a b : Expr} {pos : Pos} {f f' : VE} (ha : VEok X Cl a f) (hb : VEok X Cl b f') : VEok X Cl (.BinOp a .FloorDiv b pos) (v2 (gIC (fun _ j => decide (0 < j) && decide (j < 1073741824)) fun i j => .int (i / j)) f f') := ve_op op_fdiv ov_fdiv ha hb
theorem ve_pow {a b : Expr} {pos : Pos} {f f' : VE} (ha : VEok X Cl a f) (hb : VEok X Cl b f') : VEok X Cl (.BinOp a .Pow b pos) (v2 (gIC (fun i j => decide (0 ≤ j) && (decide (j ≤ 1000000) && decide (i.natAbs < 2 ^ 64))) fun i j => .int (i ^ j.toNat)) f f') := ve_op op_pow ov_pow ha hb

def repD (k : Nat) (es : List D) : List D := (List.replicate k es).flatten
theorem reps_rep {K : PySem.W.Frag} {H : Hp} {F : ASet} {xs : List V} {es : List D} (h : Reps K Cl H F xs es) : ∀ k : Nat, Reps K Cl H F (List.replicate k xs).flatten (repD k es)
  | 0 => by unfold repD; simp; exact .nil
  | k + 1 => by
    unfold repD
    rw [List.replicate_succ, List.flatten_cons, List.replicate_succ, List.flatten_cons]
    exact h.append (reps_rep h k)
def gRep : G2 := fun x y => match x.d, y.d with
  | .lst xs, .int k => if (decide (-(2 ^ 63) ≤ k) && decide (k < 2 ^ 63)) && decide (xs.length * k.toNat ≤ 16777216) then some (mkL (repD k.toNat xs) x.al) else none
  | _, _ => none
theorem ov_rep : OpV X Cl rRep gRep := by
  intro Hs H1 H2 Fs x y rx ry rr Q s1 s2 w1 w2 e k
  unfold gRep at e
  split at e
  · rename_i xs n e1 e2
    split at e
    · rename_i hl
      cases e
      simp only [Bool.and_eq_true, decide_eq_true_eq] at hl
      obtain ⟨F, _, r1, t, f, _⟩ := w1
      rw [e1] at r1
      obtain ⟨a, us, rfl, ha, fa, ra⟩ := r1.lst_of
      exact ⟨a, n, us, rfl, val_int w2 e2, ha, hl.1.1, hl.1.2, line_eq (by rw [ra.length]; exact hl.2), fun p hp => k _ _ (same_upd hp) (new_list (s1.trans s2) (reps_rep ra _) t f hp)⟩
    · cases e
  · cases e
def gMul : G2 := fun x y => match gIC cMul (fun i j => .int (i * j)) x y with
  | some z => some z
  | none => gRep x y
theorem ve_mul {a b : Expr} {pos : Pos} {f f' : VE} (ha : VEok X Cl a f) (hb : VEok X Cl b f') : VEok X Cl (.BinOp a .Mult b pos) (v2 gMul f f') := ve_op (op_mul.or op_rep) (ov_mul.or ov_rep) ha hb

/-! ### comparisons -/
theorem ve_lt {a b : Expr} {pos : Pos} {f f' : VE} (ha : VEok X Cl a f) (hb : VEok X Cl b f') : VEok X Cl (.Compare a [.Lt] [b] pos) (v2 (gI fun i j => .bl (decide (i < j))) f f') := ve_cmp op_lt ov_lt ha hb (nomark _)
theorem ve_le {a b : Expr} {pos : Pos} {f f' : VE} (ha : VEok X Cl a f) (hb : VEok X Cl b f') : VEok X Cl (.Compare a [.LtE] [b] pos) (v2 (gI fun i j => .bl (decide (i ≤ j))) f f') := ve_cmp op_le ov_le ha hb (nomark _)
theorem ve_gt {a b : Expr} {pos : Pos} {f f' : VE} (ha : VEok X Cl a f) (hb : VEok X Cl b f') : VEok X Cl (.Compare a [.Gt] [b] pos) (v2 (gI fun i j => .bl (decide (j < i))) f f') := ve_cmp op_gt ov_gt ha hb (nomark _)
theorem ve_ge {a b : Expr} {pos : Pos} {f f' : VE} (ha : VEok X Cl a f) (hb : VEok X Cl b f') : VEok X Cl (.Compare a [.GtE] [b] pos) (v2 (gI fun i j => .bl (decide (j ≤ i))) f f') := ve_cmp op_ge ov_ge ha hb (nomark _)

end
/-! ### data as the library's data -/
mutual
def toPy : D → Option PyData
  | .non => some .none
  | .bl b => some (.bool b)
  | .int i => some (.int i)
  | .str x => some (.str x)
  | .lst xs => match toPyL xs with
    | some ys => some (.list ys)
    | none => none
  | .tup xs => match toPyL xs with
    | some ys => some (.tuple ys)
    | none => none
  | .dic _ => none
  | .ins _ _ => none
  | .scr _ => none
  | .exc _ _ => none
  | .kdc _ => none
def toPyL : List D → Option (List PyData)
  | [] => some []
  | x :: xs => match toPy x with
    | some y => match toPyL xs with
      | some ys => some (y :: ys)
      | none => none
    | none => none
end
section
variable {K : PySem.W.Frag} {Cl : ClsT} {H : Hp} {F : ASet}
mutual
theorem Rep.dp : ∀ {v : V} {d : D} {p : PyData}, Rep K Cl H F v d → toPy d = some p → Dp K H v p
  | _, _, _, .non, e => by rw [toPy] at e; cases e; exact .non
  | _, _, _, .bl b, e => by rw [toPy] at e; cases e; exact .bl b
  | _, _, _, .int i, e => by rw [toPy] at e; cases e; exact .int i
  | _, _, _, .str x, e => by rw [toPy] at e; cases e; exact .str x
  | _, _, _, .tup h r, e => by
    rw [toPy] at e
    split at e
    · rename_i ys ey; cases e; exact .tup h (Reps.dp r ey)
    · cases e
  | _, _, _, .lst h _ r, e => by
    rw [toPy] at e
    split at e
    · rename_i ys ey; cases e; exact .lst (SqL.of h) (Reps.dp r ey)
    · cases e
  | _, _, _, .dic _ _ _, e => by rw [toPy] at e; cases e
  | _, _, _, .ins _ _ _ _, e => by rw [toPy] at e; cases e
  | _, _, _, .scr _ _, e => by rw [toPy] at e; cases e
  | _, _, _, .scrK _, e => by rw [toPy] at e; cases e
  | _, _, _, .exc0 _ _ _, e => by rw [toPy] at e; cases e
  | _, _, _, .exc _ _ _ _ _ _, e => by rw [toPy] at e; cases e
  | _, _, _, .kdc _, e => by rw [toPy] at e; cases e
  | _, _, _, .exh0 _, e => by rw [toPy] at e; cases e
  | _, _, _, .exh _ _ _, e => by rw [toPy] at e; cases e
theorem Reps.dp : ∀ {v : List V} {d : List D} {p : List PyData}, Reps K Cl H F v d → toPyL d = some p → DpAll K H v p
  | _, _, _, .nil, e => by rw [toPyL] at e; cases e; exact .nil
  | _, _, _, .cons a b, e => by
    rw [toPyL] at e
    split at e
    · rename_i y ey
      split at e
      · rename_i ys eys
        cases e
        exact .cons (Rep.dp a ey) (Reps.dp b eys)
      · cases e
    · cases e
end
end
/-- == of data -/
def eqD (a b : D) : Option Bool := match toPy a, toPy b with
  | some x, some y => if SeqAt.shaped x && SeqAt.shaped y then some (PyData.eqv x y) else none
  | _, _ => none
section
variable {X : Cx} {Cl : ClsT}
def gEq (neg : Bool) : G2 := fun x y => match eqD x.d y.d with
  | some b => some ⟨.bl (if neg then !b else b), 2, []⟩
  | none => none
theorem eqD_ok {x y : D} {b : Bool} (e : eqD x y = some b) : ∃ p q, toPy x = some p ∧ toPy y = some q ∧ SeqAt.shaped p = true ∧ SeqAt.shaped q = true ∧ b = PyData.eqv p q := by
  unfold eqD at e
  split at e
  · rename_i p q ep eq
    split at e
    · rename_i h
      rw [Bool.and_eq_true] at h
      cases e
      exact ⟨p, q, ep, eq, h.1, h.2, rfl⟩
    · cases e
  · cases e
theorem ov_eq : OpV X Cl (rEqD X.K) (gEq false) := by
  intro Hs H1 H2 Fs x y rx ry rr Q s1 s2 w1 w2 e k
  unfold gEq at e
  split at e
  · rename_i b eb
    cases e
    obtain ⟨p, q, ep, eq, sp, sq, rfl⟩ := eqD_ok eb
    obtain ⟨F1, r1⟩ := w1.rep
    obtain ⟨F2, r2⟩ := w2.rep
    exact ⟨p, q, r1.dp ep, r2.dp eq, sp, sq, k _ _ (Same.refl _) (.pureV (.bl _) rfl)⟩
  · cases e
theorem ov_ne : OpV X Cl (rNeD X.K) (gEq true) := by
  intro Hs H1 H2 Fs x y rx ry rr Q s1 s2 w1 w2 e k
  unfold gEq at e
  split at e
  · rename_i b eb
    cases e
    obtain ⟨p, q, ep, eq, sp, sq, rfl⟩ := eqD_ok eb
    obtain ⟨F1, r1⟩ := w1.rep
    obtain ⟨F2, r2⟩ := w2.rep
    exact ⟨p, q, r1.dp ep, r2.dp eq, sp, sq, k _ _ (Same.refl _) (.pureV (.bl _) rfl)⟩
  · cases e
theorem ve_eq {a b : Expr} {pos : Pos} {f f' : VE} (hu : X.A.units + 64 < cLine) (ha : VEok X Cl a f) (hb : VEok X Cl b f') : VEok X Cl (.Compare a [.Eq] [b] pos) (v2 (gEq false) f f') := ve_cmp (op_eqD hu) ov_eq ha hb (nomark _)
theorem ve_ne {a b : Expr} {pos : Pos} {f f' : VE} (hu : X.A.units + 64 < cLine) (ha : VEok X Cl a f) (hb : VEok X Cl b f') : VEok X Cl (.Compare a [.NotEq] [b] pos) (v2 (gEq true) f f') := ve_cmp (op_neD hu) ov_ne ha hb (nomark _)
/-! in -/
def flatD : D → Bool
  | .non => true
  | .bl _ => true
  | .int _ => true
  | .str _ => true
  | _ => false
def anyEq (d : D) : List D → Option Bool
  | [] => some false
  | x :: xs => match eqD x d with
    | some true => some true
    | some false => anyEq d xs
    | none => none
/-- x in xs: the items as the library's data -/
def inD (neg : Bool) : G2 := fun x y => match y.d with
  | .lst ys => match toPy x.d, toPyL ys with
    | some p, some qs => if SeqAt.shaped p && SeqAt.shaped (.list qs) then some ⟨.bl (if neg then !(qs.any fun z => PyData.eqv z p) else (qs.any fun z => PyData.eqv z p)), 2, []⟩ else none
    | _, _ => none
  | .tup ys => match toPy x.d, toPyL ys with
    | some p, some qs => if flatD x.d && ys.all flatD then some ⟨.bl (if neg then !(qs.any fun z => PyData.eqv z p) else (qs.any fun z => PyData.eqv z p)), 2, []⟩ else none
    | _, _ => none
  | _ => none
theorem flat_eqV {K : PySem.W.Frag} {H : Hp} {F F' : ASet} {x y : V} {d e : D} {p q : PyData} (r : Rep K Cl H F x d) (s : Rep K Cl H F' y e) (fd : flatD d = true) (fe : flatD e = true) (hp : toPy d = some p) (hq : toPy e = some q) :
    flatV x = true ∧ flatV y = true ∧ eqV y x = PyData.eqv q p := by
  cases r <;> first | (exact absurd fd Bool.false_ne_true) | skip
  all_goals (cases s <;> first | (exact absurd fe Bool.false_ne_true) | skip)
  all_goals (simp only [toPy, Option.some.injEq] at hp hq; subst hp; subst hq; exact ⟨rfl, rfl, by first | rfl | simp [eqV, PyData.eqv]⟩)
theorem flat_any {K : PySem.W.Frag} {H : Hp} {F F' : ASet} {x : V} {d : D} {p : PyData} (r : Rep K Cl H F x d) (fd : flatD d = true) (hp : toPy d = some p) : ∀ {ys : List V} {es : List D} {qs : List PyData}, Reps K Cl H F' ys es → es.all flatD = true → toPyL es = some qs →
    ys.all flatV = true ∧ inV x ys = qs.any fun z => PyData.eqv z p
  | _, _, qs, .nil, _, e => by
    rw [toPyL] at e; cases e
    exact ⟨rfl, rfl⟩
  | _, _, qs, .cons a b, fe, e => by
    rw [List.all_cons, Bool.and_eq_true] at fe
    rw [toPyL] at e
    split at e
    · rename_i y ey
      split at e
      · rename_i ys eys
        cases e
        obtain ⟨h1, h2⟩ := flat_any r fd hp b fe.2 eys
        obtain ⟨g1, g2, g3⟩ := flat_eqV r a fd fe.1 hp ey
        refine ⟨by rw [List.all_cons, g2, h1]; rfl, ?_⟩
        unfold inV at h2 ⊢
        rw [List.any_cons, List.any_cons, g3, h2]
      · cases e
    · cases e
theorem flat_self {K : PySem.W.Frag} {H : Hp} {F : ASet} {x : V} {d : D} (r : Rep K Cl H F x d) (fd : flatD d = true) : flatV x = true := by
  cases r <;> first | (exact absurd fd Bool.false_ne_true) | rfl
theorem ov_in (neg : Bool) {r : R2} (hr : ∀ x y H Q, ((if neg then rNotInD X.K x y H Q else rInD X.K x y H Q) ∨ rIn X.K neg x y H Q) → r x y H Q) : OpV X Cl r (inD neg) := by
  intro Hs H1 H2 Fs x y rx ry rr Q s1 s2 w1 w2 e k
  refine hr _ _ _ _ ?_
  obtain ⟨F1, r1⟩ := w1.rep
  obtain ⟨F2, r2⟩ := w2.rep
  unfold inD at e
  split at e
  · rename_i ys ey
    split at e
    · rename_i p qs ep eqs
      split at e
      · rename_i hs
        rw [Bool.and_eq_true] at hs
        cases e
        rw [ey] at r2
        have d1 : Dp X.K H2 y (.list qs) := r2.dp (by rw [toPy, eqs])
        have fin : Q (.bl (if neg = true then !(qs.any fun z => PyData.eqv z p) else (qs.any fun z => PyData.eqv z p))) H2 := k _ _ (Same.refl _) (.pureV (.bl _) rfl)
        left
        cases neg with
        | true => exact ⟨p, qs, r1.dp ep, d1, hs.1, hs.2, fin⟩
        | false => exact ⟨p, qs, r1.dp ep, d1, hs.1, hs.2, fin⟩
      · cases e
    · cases e
  · rename_i ys ey
    split at e
    · rename_i p qs ep eqs
      split at e
      · rename_i hs
        rw [Bool.and_eq_true] at hs
        cases e
        rw [ey] at r2
        obtain ⟨a, us, rfl, ha, ra⟩ := r2.tup_of
        obtain ⟨h1, h2⟩ := flat_any r1 hs.1 ep ra hs.2 eqs
        refine .inr ⟨a, us, rfl, .inr ha, flat_self r1 hs.1, h1, ?_⟩
        rw [h2]
        exact k _ _ (Same.refl _) (.pureV (.bl _) rfl)
      · cases e
    · cases e
  · cases e
theorem ve_in {a b : Expr} {pos : Pos} {f f' : VE} (hu : X.A.units + 65 < cLine) (ha : VEok X Cl a f) (hb : VEok X Cl b f') (hm : behindInMarks .In b = false := by rfl) : VEok X Cl (.Compare a [.In] [b] pos) (v2 (inD false) f f') :=
  ve_cmp ((op_inD hu).or op_in_seq) (ov_in false fun _ _ _ _ h => h) ha hb hm
theorem ve_notin {a b : Expr} {pos : Pos} {f f' : VE} (hu : X.A.units + 65 < cLine) (ha : VEok X Cl a f) (hb : VEok X Cl b f') (hm : behindInMarks .NotIn b = false := by rfl) : VEok X Cl (.Compare a [.NotIn] [b] pos) (v2 (inD true) f f') :=
  ve_cmp ((op_notInD hu).or op_notIn_seq) (ov_in true fun _ _ _ _ h => h) ha hb hm
end
end VL

namespace VL
open PySem PySem.Spec L2

section
variable {X : Cx} {Cl : ClsT}
/-! ### one value, then something -/
def v1 (g : Rv → Option Rv) (f : VE) : VE := fun env => match f env with
  | some x => g x
  | none => none
/-- is None, is not None -/
def gIsN (neg : Bool) : Rv → Option Rv := fun x => match x.d with
  | .non => some ⟨.bl (!neg), 2, []⟩
  | _ => some ⟨.bl neg, 2, []⟩
theorem isN_val {K : PySem.W.Frag} {Hs H : Hp} {Fs : Nat → ASet} {v : V} {r : Rv} (w : ValOk K Cl Hs H Fs v r) : decide (v = .non) = (match r.d with | .non => true | _ => false) := by
  obtain ⟨F, h⟩ := w.rep
  cases hd : r.d <;> rw [hd] at h <;> cases h <;> rfl
theorem ve_isN {a : Expr} {pos pos' : Pos} {j : Nat} {f : VE} (ha : VEok X Cl a f) : VEok X Cl (.Compare a [.Is] [.Constant .none j pos'] pos) (v1 (gIsN false) f) := by
  obtain ⟨ta, pa, qa⟩ := ha
  refine ⟨_, pe_cmp (pc_isN pa) rfl, fun H0 G σ H env Fs ow rr Q S e k => ?_⟩
  unfold v1 at e
  split at e
  · rename_i x ex
    refine qa _ _ _ _ _ _ _ _ _ S ex fun v H1 s1 w1 => ?_
    have h := isN_val w1
    unfold gIsN at e
    cases hd : x.d <;> rw [hd] at e h <;> dsimp only at e h <;> cases e <;> rw [h] <;> exact k _ _ s1 (.pureV (.bl _) rfl)
  · cases e
theorem ve_notN {a : Expr} {pos pos' : Pos} {j : Nat} {f : VE} (ha : VEok X Cl a f) : VEok X Cl (.Compare a [.IsNot] [.Constant .none j pos'] pos) (v1 (gIsN true) f) := by
  obtain ⟨ta, pa, qa⟩ := ha
  refine ⟨_, pe_cmp (pc_notN pa) rfl, fun H0 G σ H env Fs ow rr Q S e k => ?_⟩
  unfold v1 at e
  split at e
  · rename_i x ex
    refine qa _ _ _ _ _ _ _ _ _ S ex fun v H1 s1 w1 => ?_
    have h := isN_val w1
    unfold gIsN at e
    cases hd : x.d <;> rw [hd] at e h <;> dsimp only at e h <;> cases e <;> rw [h] <;> exact k _ _ s1 (.pureV (.bl _) rfl)
  · cases e

/-! ### and, or, not; conditional expressions; tests -/
def vAnd (f g : VE) : VE := fun env => match f env with
  | some x => match x.d with
    | .bl true => g env
    | .bl false => some ⟨.bl false, 2, []⟩
    | _ => none
  | none => none
def vOr (f g : VE) : VE := fun env => match f env with
  | some x => match x.d with
    | .bl true => some ⟨.bl true, 2, []⟩
    | .bl false => g env
    | _ => none
  | none => none
theorem ve_one {a : Expr} {op : BoolOp} {pos : Pos} {f : VE} (h : VEok X Cl a f) : VEok X Cl (.BoolOp op [a] pos) f := let ⟨t, p, q⟩ := h; ⟨_, pe_one p, q⟩
theorem ve_and {a b : Expr} {rest : List Expr} {pos : Pos} {f g : VE} (ha : VEok X Cl a f) (hb : VEok X Cl (.BoolOp .And (b :: rest) pos) g) : VEok X Cl (.BoolOp .And (a :: b :: rest) pos) (vAnd f g) := by
  obtain ⟨ta, pa, qa⟩ := ha
  obtain ⟨tb, pb, qb⟩ := hb
  refine ⟨_, pe_and pa pb, fun H0 G σ H env Fs ow rr Q S e k => ?_⟩
  unfold vAnd at e
  split at e
  · rename_i x ex
    refine qa _ _ _ _ _ _ _ _ _ S ex fun v H1 s1 w1 => ?_
    split at e
    · rename_i hd
      exact ⟨true, val_bl w1 hd, iteT (qb _ _ _ _ _ _ _ _ _ (S.go s1) e fun v H2 s2 w2 => k v H2 (s1.trans s2) (w2.from s1))⟩
    · rename_i hd
      cases e
      exact ⟨false, val_bl w1 hd, iteF (k _ _ s1 (.pureV (.bl _) rfl))⟩
    · cases e
  · cases e
theorem ve_or {a b : Expr} {rest : List Expr} {pos : Pos} {f g : VE} (ha : VEok X Cl a f) (hb : VEok X Cl (.BoolOp .Or (b :: rest) pos) g) : VEok X Cl (.BoolOp .Or (a :: b :: rest) pos) (vOr f g) := by
  obtain ⟨ta, pa, qa⟩ := ha
  obtain ⟨tb, pb, qb⟩ := hb
  refine ⟨_, pe_or pa pb, fun H0 G σ H env Fs ow rr Q S e k => ?_⟩
  unfold vOr at e
  split at e
  · rename_i x ex
    refine qa _ _ _ _ _ _ _ _ _ S ex fun v H1 s1 w1 => ?_
    split at e
    · rename_i hd
      cases e
      exact ⟨true, val_bl w1 hd, iteT (k _ _ s1 (.pureV (.bl _) rfl))⟩
    · rename_i hd
      exact ⟨false, val_bl w1 hd, iteF (qb _ _ _ _ _ _ _ _ _ (S.go s1) e fun v H2 s2 w2 => k v H2 (s1.trans s2) (w2.from s1))⟩
    · cases e
  · cases e
/-- the truth of a datum -/
def truD : D → Option Bool
  | .non => some false
  | .bl b => some b
  | .int i => some (i != 0)
  | .lst xs => some (!xs.isEmpty)
  | .tup xs => some (!xs.isEmpty)
  | _ => none
def tV (f : VE) : VT := fun env => match f env with
  | some x => truD x.d
  | none => none
theorem reps_empty {K : PySem.W.Frag} {H : Hp} {F : ASet} {xs : List V} {ds : List D} (r : Reps K Cl H F xs ds) : (!ds.isEmpty) = !xs.isEmpty := by cases r <;> rfl
theorem truV_of {K : PySem.W.Frag} {Hs H : Hp} {Fs : Nat → ASet} {v : V} {r : Rv} {b : Bool} (w : ValOk K Cl Hs H Fs v r) (e : truD r.d = some b) : TruV K v H b := by
  obtain ⟨F, h⟩ := w.rep
  cases hd : r.d <;> rw [hd] at h e <;> first | (cases e; done) | skip
  all_goals first | (rw [truD] at e; cases e) | skip
  · cases h; rfl
  · cases h; rfl
  · cases h; rfl
  · obtain ⟨a, xs, rfl, ha, _, ra⟩ := h.lst_of
    exact .inl ⟨xs, SqL.of ha, reps_empty ra⟩
  · obtain ⟨a, xs, rfl, ha, ra⟩ := h.tup_of
    exact .inr (.inl ⟨xs, ha, reps_empty ra⟩)
theorem vt_val {e : Expr} {f : VE} (h : VEok X Cl e f) (he : ∀ whole, isTrue e X.env whole = (do let v ← whole; standAt e.pos; holding [v] (truthy v)) := by intro _; rfl) : VTok X Cl e (tV f) := by
  obtain ⟨t, p, q⟩ := h
  refine ⟨_, pt_truth p he, fun H0 G σ H env Fs ow b Q S e k => ?_⟩
  unfold tV at e
  split at e
  · rename_i x ex
    exact q _ _ _ _ _ _ _ _ _ S ex fun v H1 s1 w1 => ⟨b, truV_of w1 e, k H1 s1⟩
  · cases e
/-- a comparison as a test -/
def tB_ (f : VE) : VT := fun env => match f env with
  | some x => match x.d with
    | .bl b => some b
    | _ => none
  | none => none
theorem vt_cmpR {a b : Expr} {op : CmpOp} {pos : Pos} {r : R2} {g : G2} {f f' : VE} (ho : OpR X (compareOp op) r) (hg : OpV X Cl r g) (ha : VEok X Cl a f) (hb : VEok X Cl b f') (hm : behindInMarks op b = false) : VTok X Cl (.Compare a [op] [b] pos) (tB_ (v2 g f f')) := by
  obtain ⟨ta, pa, qa⟩ := ha
  obtain ⟨tb, pb, qb⟩ := hb
  refine ⟨_, pt_cmpR ho pa pb hm, fun H0 G σ H env Fs ow rr Q S e k => ?_⟩
  unfold tB_ at e
  split at e
  · rename_i x ex
    split at e
    · rename_i b hd
      cases e
      refine op2 hg S qa qb ex fun v H1 s1 w1 => ⟨rr, val_bl w1 hd, k H1 s1⟩
    · cases e
  · cases e
theorem vt_lt {a b : Expr} {pos : Pos} {f f' : VE} (ha : VEok X Cl a f) (hb : VEok X Cl b f') : VTok X Cl (.Compare a [.Lt] [b] pos) (tB_ (v2 (gI fun i j => .bl (decide (i < j))) f f')) := vt_cmpR op_lt ov_lt ha hb (nomark _)
theorem vt_le {a b : Expr} {pos : Pos} {f f' : VE} (ha : VEok X Cl a f) (hb : VEok X Cl b f') : VTok X Cl (.Compare a [.LtE] [b] pos) (tB_ (v2 (gI fun i j => .bl (decide (i ≤ j))) f f')) := vt_cmpR op_le ov_le ha hb (nomark _)
theorem vt_gt {a b : Expr} {pos : Pos} {f f' : VE} (ha : VEok X Cl a f) (hb : VEok X Cl b f') : VTok X Cl (.Compare a [.Gt] [b] pos) (tB_ (v2 (gI fun i j => .bl (decide (j < i))) f f')) := vt_cmpR op_gt ov_gt ha hb (nomark _)
theorem vt_ge {a b : Expr} {pos : Pos} {f f' : VE} (ha : VEok X Cl a f) (hb : VEok X Cl b f') : VTok X Cl (.Compare a [.GtE] [b] pos) (tB_ (v2 (gI fun i j => .bl (decide (j ≤ i))) f f')) := vt_cmpR op_ge ov_ge ha hb (nomark _)
theorem vt_eq {a b : Expr} {pos : Pos} {f f' : VE} (hu : X.A.units + 64 < cLine) (ha : VEok X Cl a f) (hb : VEok X Cl b f') : VTok X Cl (.Compare a [.Eq] [b] pos) (tB_ (v2 (gEq false) f f')) := vt_cmpR (op_eqD hu) ov_eq ha hb (nomark _)
theorem vt_ne {a b : Expr} {pos : Pos} {f f' : VE} (hu : X.A.units + 64 < cLine) (ha : VEok X Cl a f) (hb : VEok X Cl b f') : VTok X Cl (.Compare a [.NotEq] [b] pos) (tB_ (v2 (gEq true) f f')) := vt_cmpR (op_neD hu) ov_ne ha hb (nomark _)
theorem vt_in {a b : Expr} {pos : Pos} {f f' : VE} (hu : X.A.units + 65 < cLine) (ha : VEok X Cl a f) (hb : VEok X Cl b f') (hm : behindInMarks .In b = false := by rfl) : VTok X Cl (.Compare a [.In] [b] pos) (tB_ (v2 (inD false) f f')) :=
  vt_cmpR ((op_inD hu).or op_in_seq) (ov_in false fun _ _ _ _ h => h) ha hb hm
theorem vt_notin {a b : Expr} {pos : Pos} {f f' : VE} (hu : X.A.units + 65 < cLine) (ha : VEok X Cl a f) (hb : VEok X Cl b f') (hm : behindInMarks .NotIn b = false := by rfl) : VTok X Cl (.Compare a [.NotIn] [b] pos) (tB_ (v2 (inD true) f f')) :=
  vt_cmpR ((op_notInD hu).or op_notIn_seq) (ov_in true fun _ _ _ _ h => h) ha hb hm
/-- a bool-valued expression of a form whose test asks its value's truth -/
theorem vt_bool {e : Expr} {f : VE} (h : VEok X Cl e f) (hp : ∀ t, PE X e t → PT X e (tB t)) : VTok X Cl e (tB_ f) := by
  obtain ⟨t, p, q⟩ := h
  refine ⟨_, hp t p, fun H0 G σ H env Fs ow b Q S e k => ?_⟩
  unfold tB_ at e
  split at e
  · rename_i x ex
    split at e
    · rename_i b hd
      cases e
      exact q _ _ _ _ _ _ _ _ _ S ex fun v H1 s1 w1 => ⟨_, val_bl w1 hd, k H1 s1⟩
    · cases e
  · cases e
theorem vt_isN {a : Expr} {pos pos' : Pos} {j : Nat} {f : VE} (ha : VEok X Cl a f) : VTok X Cl (.Compare a [.Is] [.Constant .none j pos'] pos) (tB_ (v1 (gIsN false) f)) := by
  obtain ⟨ta, pa, qa⟩ := ha
  refine ⟨_, pt_cmp (pc_isN pa) rfl, fun H0 G σ H env Fs ow rr Q S e k => ?_⟩
  unfold tB_ v1 at e
  cases ex : f env with
  | none => rw [ex] at e; cases e
  | some x =>
    rw [ex] at e
    dsimp only at e
    refine qa _ _ _ _ _ _ _ _ _ S ex fun v H1 s1 w1 => ⟨_, rfl, ?_⟩
    have h := isN_val w1
    unfold gIsN at e
    cases hd : x.d <;> rw [hd] at e h <;> dsimp only at e h <;> cases e <;> rw [h] <;> exact k H1 s1
theorem vt_notN {a : Expr} {pos pos' : Pos} {j : Nat} {f : VE} (ha : VEok X Cl a f) : VTok X Cl (.Compare a [.IsNot] [.Constant .none j pos'] pos) (tB_ (v1 (gIsN true) f)) := by
  obtain ⟨ta, pa, qa⟩ := ha
  refine ⟨_, pt_cmp (pc_notN pa) rfl, fun H0 G σ H env Fs ow rr Q S e k => ?_⟩
  unfold tB_ v1 at e
  cases ex : f env with
  | none => rw [ex] at e; cases e
  | some x =>
    rw [ex] at e
    dsimp only at e
    refine qa _ _ _ _ _ _ _ _ _ S ex fun v H1 s1 w1 => ⟨_, rfl, ?_⟩
    have h := isN_val w1
    unfold gIsN at e
    cases hd : x.d <;> rw [hd] at e h <;> dsimp only at e h <;> cases e <;> rw [h] <;> exact k H1 s1
def tNot_ (f : VT) : VT := fun env => match f env with
  | some b => some (!b)
  | none => none
theorem vt_not {a : Expr} {pos : Pos} {f : VT} (h : VTok X Cl a f) : VTok X Cl (.UnaryOp .Not a pos) (tNot_ f) := by
  obtain ⟨t, p, q⟩ := h
  refine ⟨_, pt_not p, fun H0 G σ H env Fs ow b Q S e k => ?_⟩
  unfold tNot_ at e
  split at e
  · rename_i x ex
    cases e
    exact q _ _ _ _ _ _ _ _ _ S ex fun H1 s1 => k H1 s1
  · cases e
def tAnd_ (f g : VT) : VT := fun env => match f env with
  | some true => g env
  | some false => some false
  | none => none
def tOr_ (f g : VT) : VT := fun env => match f env with
  | some true => some true
  | some false => g env
  | none => none
theorem vw_and1 {a : Expr} {pos : Pos} {f : VT} (h : VTok X Cl a f) : VWok X Cl (.BoolOp .And [a] pos) f := let ⟨t, p, q⟩ := h; ⟨_, pw_and1 p, q⟩
theorem vw_or1 {a : Expr} {pos : Pos} {f : VT} (h : VTok X Cl a f) : VWok X Cl (.BoolOp .Or [a] pos) f := let ⟨t, p, q⟩ := h; ⟨_, pw_or1 p, q⟩
theorem vw_and {a b : Expr} {rest : List Expr} {pos : Pos} {f g : VT} (ha : VTok X Cl a f) (hb : VWok X Cl (.BoolOp .And (b :: rest) pos) g) : VWok X Cl (.BoolOp .And (a :: b :: rest) pos) (tAnd_ f g) := by
  obtain ⟨ta, pa, qa⟩ := ha
  obtain ⟨tb, pb, qb⟩ := hb
  refine ⟨_, pw_and pa pb, fun H0 G σ H env Fs ow rr Q S e k => ?_⟩
  unfold tAnd_ at e
  split at e
  · rename_i ex
    exact qa _ _ _ _ _ _ _ _ _ S ex fun H1 s1 => iteT (qb _ _ _ _ _ _ _ _ _ (S.go s1) e fun H2 s2 => k H2 (s1.trans s2))
  · rename_i ex
    cases e
    exact qa _ _ _ _ _ _ _ _ _ S ex fun H1 s1 => iteF (k H1 s1)
  · cases e
theorem vw_or {a b : Expr} {rest : List Expr} {pos : Pos} {f g : VT} (ha : VTok X Cl a f) (hb : VWok X Cl (.BoolOp .Or (b :: rest) pos) g) : VWok X Cl (.BoolOp .Or (a :: b :: rest) pos) (tOr_ f g) := by
  obtain ⟨ta, pa, qa⟩ := ha
  obtain ⟨tb, pb, qb⟩ := hb
  refine ⟨_, pw_or pa pb, fun H0 G σ H env Fs ow rr Q S e k => ?_⟩
  unfold tOr_ at e
  split at e
  · rename_i ex
    cases e
    exact qa _ _ _ _ _ _ _ _ _ S ex fun H1 s1 => iteT (k H1 s1)
  · rename_i ex
    exact qa _ _ _ _ _ _ _ _ _ S ex fun H1 s1 => iteF (qb _ _ _ _ _ _ _ _ _ (S.go s1) e fun H2 s2 => k H2 (s1.trans s2))
  · cases e
theorem vt_w {e : Expr} {f : VT} (h : VWok X Cl e f) : VTok X Cl e f := let ⟨t, p, q⟩ := h; ⟨_, p.pt, q⟩
/-- not x as a value -/
def vNot (f : VE) : VE := fun env => match f env with
  | some x => match x.d with
    | .bl b => some ⟨.bl (!b), 2, []⟩
    | _ => none
  | none => none
theorem ve_not {a : Expr} {pos : Pos} {f : VE} (h : VEok X Cl a f) : VEok X Cl (.UnaryOp .Not a pos) (vNot f) := by
  obtain ⟨t, p, q⟩ := h
  refine ⟨_, pe_not p, fun H0 G σ H env Fs ow r Q S e k => ?_⟩
  unfold vNot at e
  split at e
  · rename_i x ex
    split at e
    · rename_i b hd
      cases e
      exact q _ _ _ _ _ _ _ _ _ S ex fun v H1 s1 w1 => ⟨b, val_bl w1 hd, k _ _ s1 (.pureV (.bl _) rfl)⟩
    · cases e
  · cases e
def vNeg (f : VE) : VE := fun env => match f env with
  | some x => match x.d with
    | .int i => some ⟨.int (-i), 2, []⟩
    | _ => none
  | none => none
theorem ve_neg {a : Expr} {pos : Pos} {f : VE} (h : VEok X Cl a f) : VEok X Cl (.UnaryOp .USub a pos) (vNeg f) := by
  obtain ⟨t, p, q⟩ := h
  refine ⟨_, pe_un un_neg p, fun H0 G σ H env Fs ow r Q S e k => ?_⟩
  unfold vNeg at e
  split at e
  · rename_i x ex
    split at e
    · rename_i i hd
      cases e
      exact q _ _ _ _ _ _ _ _ _ S ex fun v H1 s1 w1 => ⟨i, val_int w1 hd, k _ _ s1 (.pureV (.int _) rfl)⟩
    · cases e
  · cases e
def vIf (c : VT) (f g : VE) : VE := fun env => match c env with
  | some true => f env
  | some false => g env
  | none => none
theorem ve_if {c a b : Expr} {pos : Pos} {h : VT} {f g : VE} (hc : VTok X Cl c h) (ha : VEok X Cl a f) (hb : VEok X Cl b g) : VEok X Cl (.IfExp c a b pos) (vIf h f g) := by
  obtain ⟨tc, pc, qc⟩ := hc
  obtain ⟨ta, pa, qa⟩ := ha
  obtain ⟨tb, pb, qb⟩ := hb
  refine ⟨_, pe_ifExp pc pa pb, fun H0 G σ H env Fs ow rr Q S e k => ?_⟩
  unfold vIf at e
  split at e
  · rename_i ex
    exact qc _ _ _ _ _ _ _ _ _ S ex fun H1 s1 => iteT (qa _ _ _ _ _ _ _ _ _ (S.go s1) e fun v H2 s2 w2 => k v H2 (s1.trans s2) (w2.from s1))
  · rename_i ex
    exact qc _ _ _ _ _ _ _ _ _ S ex fun H1 s1 => iteF (qb _ _ _ _ _ _ _ _ _ (S.go s1) e fun v H2 s2 w2 => k v H2 (s1.trans s2) (w2.from s1))
  · cases e
/-- a < b < c of whole numbers -/
def vChain (g g' : G2) (f1 f2 f3 : VE) : VE := fun env => match f1 env with
  | some x => match f2 env with
    | some y => match g x y with
      | some z => match z.d with
        | .bl true => match f3 env with
          | some w => g' y w
          | none => none
        | .bl false => some ⟨.bl false, 2, []⟩
        | _ => none
      | none => none
    | none => none
  | none => none
def LtLe (op : CmpOp) : Int → Int → Bool := match op with
  | .Lt => fun i j => decide (i < j)
  | .LtE => fun i j => decide (i ≤ j)
  | _ => fun _ _ => false

/-! ### subscripts, attributes -/
def atD (x : Rv) (i : Int) : Option Rv := match x.d with
  | .lst ds => match atI ds i with
    | some d => some (nrm ⟨d, 0, x.al⟩)
    | none => none
  | .tup ds => match atI ds i with
    | some d => some (nrm ⟨d, 0, x.al⟩)
    | none => none
  | _ => none
def gIx : G2 := fun x y => match y.d with
  | .int i => atD x i
  | _ => none
theorem reps_at {K : PySem.W.Frag} {H : Hp} {F : ASet} {xs : List V} {ds : List D} {i : Int} {d : D} (r : Reps K Cl H F xs ds) (e : atI ds i = some d) : ∃ v, atI xs i = some v ∧ Rep K Cl H F v d := by
  unfold atI at e ⊢
  rw [r.length]
  cases h : ixN ds.length i with
  | none => rw [h] at e; cases e
  | some j => rw [h] at e; exact r.get e
theorem ov_ix : OpV X Cl (fun x y H Q => rIxL X.K x y H Q ∨ rIxT X.K x y H Q) gIx := by
  intro Hs H1 H2 Fs x y rx ry rr Q s1 s2 w1 w2 e k
  unfold gIx at e
  split at e
  · rename_i i ei
    unfold atD at e
    obtain ⟨F, _, r1, t, f, _⟩ := w1
    have fin : ∀ {v : V} {d : D}, Rep X.K Cl H2 F v d → ValOk X.K Cl Hs H2 Fs v (nrm ⟨d, 0, rx.al⟩) := fun h => .nrm ⟨F, [], h, t, f, .zero, fun _ z => by cases z⟩
    split at e
    · rename_i ds ed
      rw [ed] at r1
      obtain ⟨a, us, rfl, ha, _, ra⟩ := r1.lst_of
      split at e
      · rename_i d hd
        cases e
        obtain ⟨v, hv, rv⟩ := reps_at ra hd
        exact .inl ⟨a, us, i, v, rfl, val_int w2 ei, SqL.of ha, hv, k _ _ (Same.refl _) (fin rv)⟩
      · cases e
    · rename_i ds ed
      rw [ed] at r1
      obtain ⟨a, us, rfl, ha, ra⟩ := r1.tup_of
      split at e
      · rename_i d hd
        cases e
        obtain ⟨v, hv, rv⟩ := reps_at ra hd
        exact .inr ⟨a, us, i, v, rfl, val_int w2 ei, ha, hv, k _ _ (Same.refl _) (fin rv)⟩
      · cases e
    · cases e
  · cases e
theorem ve_ix {a b : Expr} {pos : Pos} {f f' : VE} (ha : VEok X Cl a f) (hb : VEok X Cl b f') (hs : PlainIx b := by exact fun _ _ => rfl) : VEok X Cl (.Subscript a b pos) (v2 gIx f f') := by
  obtain ⟨ta, pa, qa⟩ := ha
  obtain ⟨tb, pb, qb⟩ := hb
  exact ⟨_, pe_ix (ix_list.or ix_tup) pa pb hs, fun H0 G σ H env Fs ow rr Q S e k => op2 ov_ix S qa qb e k⟩

def cutD {α : Type} (xs : List α) (lo hi : Option Int) : List α := (xs.drop (HT.sIx xs.length 0 lo)).take (HT.sIx xs.length xs.length hi - HT.sIx xs.length 0 lo)
theorem cut_reps {K : PySem.W.Frag} {H : Hp} {F : ASet} {xs : List V} {ds : List D} {lo hi : Option Int} (r : Reps K Cl H F xs ds) : Reps K Cl H F (cutV xs lo hi) (cutD ds lo hi) := by
  unfold cutV cutD
  rw [r.length]
  exact (r.drop _).take _
/-- a part of a slice -/
abbrev VO := Ev → Option (Option Int)
def VOok (X : Cx) (Cl : ClsT) (e : Option Expr) (f : VO) : Prop := ∃ t, PO X e t ∧ ∀ (H0 : Hp) (G : ASet) (σ : L2.St) (H : Hp) (env : Ev) (Fs : Nat → ASet) (ow : Nat → List Addr) (o : Option Int) (Q : Option Int → Hp → Prop), StOk X.K Cl H0 G σ H env Fs ow → f env = some o →
  (∀ H', Same H H' → Q o H') → t σ H Q
theorem vo_none : VOok X Cl none (fun _ => some none) := ⟨_, po_none, fun H0 G σ H env Fs ow o Q S e k => by cases e; exact k H (Same.refl _)⟩
def vPart (f : VE) : VO := fun env => match f env with
  | some x => match x.d with
    | .int i => some (some i)
    | _ => none
  | none => none
theorem vo_some {e : Expr} {f : VE} (h : VEok X Cl e f) : VOok X Cl (some e) (vPart f) := by
  obtain ⟨t, p, q⟩ := h
  refine ⟨_, po_some p, fun H0 G σ H env Fs ow o Q S e k => ?_⟩
  unfold vPart at e
  split at e
  · rename_i x ex
    split at e
    · rename_i i hd
      cases e
      exact q _ _ _ _ _ _ _ _ _ S ex fun v H1 s1 w1 => ⟨i, val_int w1 hd, k _ s1⟩
    · cases e
  · cases e
def vSlice (f : VE) (lo hi : VO) : VE := fun env => match f env with
  | some x => match lo env with
    | some l => match hi env with
      | some h => match x.d with
        | .lst ds => some (mkL (cutD ds l h) x.al)
        | .tup ds => some (nrm ⟨.tup (cutD ds l h), 0, x.al⟩)
        | .scr ns => some ⟨.lst ((cutD ns l h).map D.int), 2, []⟩
        | _ => none
      | none => none
    | none => none
  | none => none
theorem cut_map (ns : List Int) (lo hi : Option Int) : cutV (ns.map V.int) lo hi = (cutD ns lo hi).map V.int := by
  unfold cutV cutD
  rw [List.length_map, ← List.map_drop, ← List.map_take]
end
end VL

namespace VL
open PySem PySem.Spec L2

section
variable {X : Cx} {Cl : ClsT}
theorem ve_chain {a b c : Expr} {op op' : CmpOp} {pos : Pos} {r r' : R2} {g g' : G2} {f1 f2 f3 : VE} (ho : OpR X (compareOp op) r) (ho' : OpR X (compareOp op') r') (hg : OpV X Cl r g) (hg' : OpV X Cl r' g') (ha : VEok X Cl a f1) (hb : VEok X Cl b f2) (hc : VEok X Cl c f3)
    (hm : lastMarks [op, op'] [b, c] = false := by with_unfolding_all rfl) : VEok X Cl (.Compare a [op, op'] [b, c] pos) (vChain g g' f1 f2 f3) := by
  obtain ⟨ta, pa, qa⟩ := ha
  obtain ⟨tb, pb, qb⟩ := hb
  obtain ⟨tc, pc, qc⟩ := hc
  refine ⟨_, pe_chain ho ho' pa pb pc hm, fun H0 G σ H env Fs ow rr Q S e k => ?_⟩
  unfold vChain at e
  split at e <;> (first | (cases e; done) | skip)
  rename_i x ex
  split at e <;> (first | (cases e; done) | skip)
  rename_i y ey
  split at e <;> (first | (cases e; done) | skip)
  rename_i z ez
  refine qa _ _ _ _ _ _ _ _ _ S ex fun v H1 s1 w1 => qb _ _ _ _ _ _ _ _ _ (S.go s1) ey fun u H2 s2 w2 => ?_
  refine hg H H1 H2 Fs v u x y z _ s1 s2 (w1.same s2) w2 ez fun zv H3 s3 w3 => ?_
  split at e
  · rename_i hz
    split at e <;> (first | (cases e; done) | skip)
    rename_i w ew
    refine ⟨true, val_bl w3 hz, iteT ?_⟩
    refine qc _ _ _ _ _ _ _ _ _ (S.go ((s1.trans s2).trans s3)) ew fun wv H4 s4 w4 => ?_
    exact hg' H1 H3 H4 Fs u wv y w rr Q (s2.trans s3) s4 ((w2.same s3).same s4) w4 e fun zz H5 s5 w5 => k zz H5 (((s1.trans s2).trans (s3.trans s4)).trans s5) (w5.from s1)
  · rename_i hz
    cases e
    exact ⟨false, val_bl w3 hz, iteF (k _ _ ((s1.trans s2).trans s3) (.pureV (.bl _) rfl))⟩
  · cases e
theorem ve_le_lt {a b c : Expr} {pos : Pos} {f1 f2 f3 : VE} (ha : VEok X Cl a f1) (hb : VEok X Cl b f2) (hc : VEok X Cl c f3) (hm : lastMarks [.LtE, .Lt] [b, c] = false := by with_unfolding_all rfl) : VEok X Cl (.Compare a [.LtE, .Lt] [b, c] pos) (vChain (gI fun i j => .bl (decide (i ≤ j))) (gI fun i j => .bl (decide (i < j))) f1 f2 f3) := ve_chain op_le op_lt ov_le ov_lt ha hb hc hm
theorem ve_le_le {a b c : Expr} {pos : Pos} {f1 f2 f3 : VE} (ha : VEok X Cl a f1) (hb : VEok X Cl b f2) (hc : VEok X Cl c f3) (hm : lastMarks [.LtE, .LtE] [b, c] = false := by with_unfolding_all rfl) : VEok X Cl (.Compare a [.LtE, .LtE] [b, c] pos) (vChain (gI fun i j => .bl (decide (i ≤ j))) (gI fun i j => .bl (decide (i ≤ j))) f1 f2 f3) := ve_chain op_le op_le ov_le ov_le ha hb hc hm
theorem ve_lt_lt {a b c : Expr} {pos : Pos} {f1 f2 f3 : VE} (ha : VEok X Cl a f1) (hb : VEok X Cl b f2) (hc : VEok X Cl c f3) (hm : lastMarks [.Lt, .Lt] [b, c] = false := by with_unfolding_all rfl) : VEok X Cl (.Compare a [.Lt, .Lt] [b, c] pos) (vChain (gI fun i j => .bl (decide (i < j))) (gI fun i j => .bl (decide (i < j))) f1 f2 f3) := ve_chain op_lt op_lt ov_lt ov_lt ha hb hc hm
/-- the chain as a test -/
theorem vt_chain {a b c : Expr} {op op' : CmpOp} {pos : Pos} {r r' : R2} {g g' : G2} {f1 f2 f3 : VE} (ho : OpR X (compareOp op) r) (ho' : OpR X (compareOp op') r') (hg : OpV X Cl r g) (hg' : OpV X Cl r' g') (ha : VEok X Cl a f1) (hb : VEok X Cl b f2) (hc : VEok X Cl c f3)
    (hm : lastMarks [op, op'] [b, c] = false := by with_unfolding_all rfl) : VTok X Cl (.Compare a [op, op'] [b, c] pos) (tB_ (vChain g g' f1 f2 f3)) := by
  obtain ⟨ta, pa, qa⟩ := ha
  obtain ⟨tb, pb, qb⟩ := hb
  obtain ⟨tc, pc, qc⟩ := hc
  refine ⟨_, pt_chain ho ho' pa pb pc hm, fun H0 G σ H env Fs ow rb Q S e k => ?_⟩
  unfold tB_ vChain at e
  cases ex : f1 env with
  | none => rw [ex] at e; cases e
  | some x =>
  rw [ex] at e
  dsimp only at e
  cases ey : f2 env with
  | none => rw [ey] at e; cases e
  | some y =>
  rw [ey] at e
  dsimp only at e
  cases ez : g x y with
  | none => rw [ez] at e; cases e
  | some z =>
  rw [ez] at e
  dsimp only at e
  refine qa _ _ _ _ _ _ _ _ _ S ex fun v H1 s1 w1 => qb _ _ _ _ _ _ _ _ _ (S.go s1) ey fun u H2 s2 w2 => ?_
  refine hg H H1 H2 Fs v u x y z _ s1 s2 (w1.same s2) w2 ez fun zv H3 s3 w3 => ?_
  cases hz : z.d with
  | bl zb =>
    rw [hz] at e
    cases zb with
    | true =>
      dsimp only at e
      cases ew : f3 env with
      | none => rw [ew] at e; cases e
      | some w =>
        rw [ew] at e
        dsimp only at e
        cases er : g' y w with
        | none => rw [er] at e; cases e
        | some rr =>
          rw [er] at e
          dsimp only at e
          cases hr : rr.d with
          | bl q =>
            rw [hr] at e
            cases e
            refine ⟨true, val_bl w3 hz, iteT ?_⟩
            refine qc _ _ _ _ _ _ _ _ _ (S.go ((s1.trans s2).trans s3)) ew fun wv H4 s4 w4 => ?_
            exact hg' H1 H3 H4 Fs u wv y w rr _ (s2.trans s3) s4 ((w2.same s3).same s4) w4 er fun zz H5 s5 w5 => ⟨rb, val_bl w5 hr, k H5 (((s1.trans s2).trans (s3.trans s4)).trans s5)⟩
          | _ => rw [hr] at e; cases e
    | false =>
      dsimp only at e
      cases e
      exact ⟨false, val_bl w3 hz, iteF ⟨false, rfl, k _ ((s1.trans s2).trans s3)⟩⟩
  | _ => rw [hz] at e; cases e
theorem vt_le_lt {a b c : Expr} {pos : Pos} {f1 f2 f3 : VE} (ha : VEok X Cl a f1) (hb : VEok X Cl b f2) (hc : VEok X Cl c f3) (hm : lastMarks [.LtE, .Lt] [b, c] = false := by with_unfolding_all rfl) : VTok X Cl (.Compare a [.LtE, .Lt] [b, c] pos) (tB_ (vChain (gI fun i j => .bl (decide (i ≤ j))) (gI fun i j => .bl (decide (i < j))) f1 f2 f3)) := vt_chain op_le op_lt ov_le ov_lt ha hb hc hm
theorem vt_le_le {a b c : Expr} {pos : Pos} {f1 f2 f3 : VE} (ha : VEok X Cl a f1) (hb : VEok X Cl b f2) (hc : VEok X Cl c f3) (hm : lastMarks [.LtE, .LtE] [b, c] = false := by with_unfolding_all rfl) : VTok X Cl (.Compare a [.LtE, .LtE] [b, c] pos) (tB_ (vChain (gI fun i j => .bl (decide (i ≤ j))) (gI fun i j => .bl (decide (i ≤ j))) f1 f2 f3)) := vt_chain op_le op_le ov_le ov_le ha hb hc hm
theorem vt_lt_lt {a b c : Expr} {pos : Pos} {f1 f2 f3 : VE} (ha : VEok X Cl a f1) (hb : VEok X Cl b f2) (hc : VEok X Cl c f3) (hm : lastMarks [.Lt, .Lt] [b, c] = false := by with_unfolding_all rfl) : VTok X Cl (.Compare a [.Lt, .Lt] [b, c] pos) (tB_ (vChain (gI fun i j => .bl (decide (i < j))) (gI fun i j => .bl (decide (i < j))) f1 f2 f3)) := vt_chain op_lt op_lt ov_lt ov_lt ha hb hc hm

/-! ### slices -/
theorem scr_of {K : PySem.W.Frag} {H : Hp} {F : ASet} {v : V} {ns : List Int} (h : Rep K Cl H F v (.scr ns)) : ∃ a, v = .ref a ∧ SqL K H a (ns.map V.int) := by
  cases h with
  | scr h f => exact ⟨_, rfl, h⟩
  | scrK h => exact ⟨_, rfl, h _⟩
theorem reps_ints {K : PySem.W.Frag} {H : Hp} {F : ASet} : ∀ ns : List Int, Reps K Cl H F (ns.map V.int) (ns.map D.int)
  | [] => .nil
  | n :: ns => .cons (.int n) (reps_ints ns)
theorem noMut_ints : ∀ ns : List Int, noMutL (ns.map D.int) = true
  | [] => rfl
  | n :: ns => by rw [List.map_cons, noMutL, noMut, noMut_ints ns]; rfl
theorem ve_slice {e : Expr} {lo hi : Option Expr} {p2 pos : Pos} {f : VE} {fl fh : VO} (he : VEok X Cl e f) (hl : VOok X Cl lo fl) (hh : VOok X Cl hi fh) : VEok X Cl (.Subscript e (.Slice lo hi none p2) pos) (vSlice f fl fh) := by
  obtain ⟨te, pe, qe⟩ := he
  obtain ⟨tl, pl, ql⟩ := hl
  obtain ⟨th, ph, qh⟩ := hh
  refine ⟨_, pe_slice (sl_list.or sl_tupA) pe pl ph, fun H0 G σ H env Fs ow rr Q S e k => ?_⟩
  unfold vSlice at e
  split at e <;> (first | (cases e; done) | skip)
  rename_i x ex
  split at e <;> (first | (cases e; done) | skip)
  rename_i l el
  split at e <;> (first | (cases e; done) | skip)
  rename_i h eh
  refine qe _ _ _ _ _ _ _ _ _ S ex fun v H1 s1 w1 => ql _ _ _ _ _ _ _ _ _ (S.go s1) el fun H2 s2 => qh _ _ _ _ _ _ _ _ _ (S.go (s1.trans s2)) eh fun H3 s3 => ?_
  have w3 := (w1.same s2).same s3
  have s : Same H H3 := (s1.trans s2).trans s3
  obtain ⟨F, _, r1, t, f, _⟩ := w3
  split at e
  · rename_i ds ed
    cases e
    rw [ed] at r1
    obtain ⟨a, us, rfl, ha, _, ra⟩ := r1.lst_of
    exact .inl ⟨a, us, rfl, SqL.of ha, fun p hp => k _ _ (s.trans (same_upd hp)) (new_list s (cut_reps ra) t f hp)⟩
  · rename_i ds ed
    cases e
    rw [ed] at r1
    obtain ⟨a, us, rfl, ha, ra⟩ := r1.tup_of
    refine .inr ⟨a, us, rfl, ha, fun z => ?_, fun z p hp => k _ _ (s.trans (same_upd hp)) (new_tup (cut_reps ra) t f hp)⟩
    have e1 : cutV us l h = us := by
      unfold cutV
      rw [z.1, z.2]
      simp
    have c := cut_reps (lo := l) (hi := h) ra
    rw [e1] at c
    exact k _ _ s (.nrm ⟨F, [], .tup ha c, t, f, .zero, fun _ z => by cases z⟩)
  · rename_i ns ed
    cases e
    rw [ed] at r1
    obtain ⟨a, rfl, ha⟩ := scr_of r1
    refine .inl ⟨a, _, rfl, ha, fun p hp => k _ _ (s.trans (same_upd hp)) ?_⟩
    rw [cut_map]
    have := new_list (Cl := Cl) (K := X.K) (Fs := Fs) (F := fun _ => False) (al := []) (Hs := H) s (reps_ints (cutD ns l h)) (fun _ f => f.elim) (fun _ f => f.elim) hp
    unfold mkL at this
    rw [if_pos (noMut_ints _)] at this
    exact this
  · cases e

/-! ### attributes -/
def lookD (f : Str) : List (Str × D) → Option D
  | [] => none
  | (k, d) :: r => if f = k then some d else lookD f r
def vFld (c : Nat) (n : Str) (f : VE) : VE := fun env => match f env with
  | some x => match x.d with
    | .ins c' fs => if c' = c then (match lookD n fs with
      | some d => some (nrm ⟨d, 0, x.al⟩)
      | none => none) else none
    | _ => none
  | none => none
theorem repF_look {K : PySem.W.Frag} {H : Hp} {F : ASet} {n : Str} : ∀ {vs : List (Str × V)} {ds : List (Str × D)} {d : D}, RepF K Cl H F vs ds → lookD n ds = some d → ∃ v, vs.lookup n = some v ∧ Rep K Cl H F v d
  | _, _, d, .nil, e => by cases e
  | _, _, d, .cons (k := k) a b, e => by
    rw [lookD] at e
    by_cases h : n = k
    · subst h
      rw [if_pos rfl] at e
      cases e
      exact ⟨_, by rw [List.lookup_cons]; simp, a⟩
    · rw [if_neg h] at e
      obtain ⟨v, h1, h2⟩ := repF_look b e
      refine ⟨v, ?_, h2⟩
      have q : (n == k) = false := by simpa using h
      rw [List.lookup_cons, q]
      exact h1
theorem ve_fld {e : Expr} {n : Str} {pos : Pos} {f : VE} {c : Nat} {C : Addr} (hC : Cl c = some C) (hk : Cls X.K C) (hn : NoAttr X.K C n) (he : VEok X Cl e f) (hb : attributeBase e n X.env (eval e X.env) = eval e X.env := by rfl) : VEok X Cl (.Attribute e n pos) (vFld c n f) := by
  obtain ⟨te, pe, qe⟩ := he
  refine ⟨_, pe_fld pe hb, fun H0 G σ H env Fs ow rr Q S e k => ?_⟩
  unfold vFld at e
  split at e <;> (first | (cases e; done) | skip)
  rename_i x ex
  refine qe _ _ _ _ _ _ _ _ _ S ex fun v H1 s1 w1 => ?_
  obtain ⟨F, _, r1, t, fr, _⟩ := w1
  split at e <;> (first | (cases e; done) | skip)
  rename_i c' fs ed
  split at e <;> (first | (cases e; done) | skip)
  rename_i ec
  subst ec
  split at e <;> (first | (cases e; done) | skip)
  rename_i d hd
  cases e
  rw [ed] at r1
  cases r1 with
  | ins h fa cc rf =>
    rw [hC] at cc
    cases cc
    obtain ⟨u, h1, h2⟩ := repF_look rf hd
    exact ⟨_, C, _, _, u, rfl, h, hk, hn, h1, k _ _ s1 (.nrm ⟨F, [], h2, t, fr, .zero, fun _ z => by cases z⟩)⟩

/-! ### calls of built-ins -/
def CallV (X : Cx) (Cl : ClsT) (r : List V → Hp → VK → Prop) (g : List Rv → Option Rv) : Prop := ∀ (Hs H : Hp) (Fs : Nat → ASet) (vs : List V) (rs : List Rv) (rr : Rv) (Q : VK), Same Hs H → ValsOk X.K Cl Hs H Fs vs rs → g rs = some rr →
  (∀ v H', Same H H' → ValOk X.K Cl Hs H' Fs v rr → Q v H') → r vs H Q
def vCall (g : List Rv → Option Rv) (a : VA) : VE := fun env => match a env with
  | some rs => g rs
  | none => none
theorem ve_callB {x : Str} {p pos : Pos} {e : Expr} {es : List Expr} {id : String} {r : List V → Hp → VK → Prop} {g : List Rv → Option Rv} {fa : VA} (hc : CallR X (.builtin id) r) (hv : CallV X Cl r g) (hm : X.mg x = none) (ha : VAok X Cl (e :: es) fa) (hb : bootBuiltins x = some (.builtin id) := by decide +kernel) (hg : Gl X x := by rfl)
    (hn : x ≠ "__name__" := by decide) (hdb : (x == ("__debug__" : Str)) = false := by decide) (he : starEach (e :: es) X.env = (false, eval e X.env) :: starEach es X.env := by rfl) (hpl : (backTo pos (starEach es X.env)).any (·.1) = false := by rfl) :
    VEok X Cl (.Call (.Name x p) (e :: es) [] pos) (vCall g fa) := by
  obtain ⟨ta, pa, qa⟩ := ha
  refine ⟨_, pe_callB hc hg hm hb pa hn hdb he hpl, fun H0 G σ H env Fs ow rr Q S e k => ?_⟩
  unfold vCall at e
  split at e <;> (first | (cases e; done) | skip)
  rename_i rs ers
  exact qa _ _ _ _ _ _ _ _ _ S ers fun vs H1 s1 w1 => hv H H1 Fs vs rs rr Q s1 w1 e fun v H2 s2 w2 => k v H2 (s1.trans s2) w2
theorem ve_callTy {x : Str} {p pos : Pos} {e : Expr} {es : List Expr} {T : String} {r : List V → Hp → VK → Prop} {g : List Rv → Option Rv} {fa : VA} (hc : CallR X (.type T) r) (hv : CallV X Cl r g) (hm : X.mg x = none) (ha : VAok X Cl (e :: es) fa) (hb : bootBuiltins x = some (.type T) := by decide +kernel) (hg : Gl X x := by rfl)
    (hn : x ≠ "__name__" := by decide) (hdb : (x == ("__debug__" : Str)) = false := by decide) (he : starEach (e :: es) X.env = (false, eval e X.env) :: starEach es X.env := by rfl) (hpl : (backTo pos (starEach es X.env)).any (·.1) = false := by rfl) :
    VEok X Cl (.Call (.Name x p) (e :: es) [] pos) (vCall g fa) := by
  obtain ⟨ta, pa, qa⟩ := ha
  refine ⟨_, pe_callTy hc hg hm hb pa hn hdb he hpl, fun H0 G σ H env Fs ow rr Q S e k => ?_⟩
  unfold vCall at e
  split at e <;> (first | (cases e; done) | skip)
  rename_i rs ers
  exact qa _ _ _ _ _ _ _ _ _ S ers fun vs H1 s1 w1 => hv H H1 Fs vs rs rr Q s1 w1 e fun v H2 s2 w2 => k v H2 (s1.trans s2) w2
/-- one argument -/
def g1 (g : Rv → Option Rv) : List Rv → Option Rv
  | [x] => g x
  | _ => none
def CallV1 (X : Cx) (Cl : ClsT) (r : List V → Hp → VK → Prop) (g : Rv → Option Rv) : Prop := ∀ (Hs H : Hp) (Fs : Nat → ASet) (v : V) (x rr : Rv) (Q : VK), Same Hs H → ValOk X.K Cl Hs H Fs v x → g x = some rr →
  (∀ v H', Same H H' → ValOk X.K Cl Hs H' Fs v rr → Q v H') → r [v] H Q
theorem CallV1.all {r : List V → Hp → VK → Prop} {g : Rv → Option Rv} (h : CallV1 X Cl r g) : CallV X Cl r (g1 g) := by
  intro Hs H Fs vs rs rr Q s w e k
  unfold g1 at e
  split at e <;> (first | (cases e; done) | skip)
  rename_i x
  cases vs with
  | nil => exact w.elim
  | cons v vs =>
    cases vs with
    | cons _ _ => obtain ⟨_, _, _, _, w⟩ := w; exact w.elim
    | nil =>
      obtain ⟨H1, s1, s2, w1, _⟩ := w
      exact h Hs H Fs v x rr Q s (w1.same s2) e k
theorem CallV.or {r r' : List V → Hp → VK → Prop} {g g' : List Rv → Option Rv} (h : CallV X Cl r g) (h' : CallV X Cl r' g') : CallV X Cl (fun xs H Q => r xs H Q ∨ r' xs H Q) (fun xs => match g xs with | some z => some z | none => g' xs) := by
  intro Hs H Fs vs rs rr Q s w e k
  dsimp only at e
  split at e
  · rename_i z ez
    cases e
    exact .inl (h Hs H Fs vs rs rr Q s w ez k)
  · exact .inr (h' Hs H Fs vs rs rr Q s w e k)
theorem CallV1.or {r r' : List V → Hp → VK → Prop} {g g' : Rv → Option Rv} (h : CallV1 X Cl r g) (h' : CallV1 X Cl r' g') : CallV1 X Cl (fun xs H Q => r xs H Q ∨ r' xs H Q) (fun xs => match g xs with | some z => some z | none => g' xs) := by
  intro Hs H Fs v x rr Q s w e k
  dsimp only at e
  split at e
  · rename_i z ez
    cases e
    exact .inl (h Hs H Fs v x rr Q s w ez k)
  · exact .inr (h' Hs H Fs v x rr Q s w e k)
/-- len -/
def gLen : Rv → Option Rv := fun x => match x.d with
  | .lst ds => some ⟨.int (ds.length : Nat), 2, []⟩
  | .tup ds => some ⟨.int (ds.length : Nat), 2, []⟩
  | .scr ns => some ⟨.int (ns.length : Nat), 2, []⟩
  | .str z => if z.length ≤ 16777216 then some ⟨.int (z.length : Nat), 2, []⟩ else none
  | _ => none
theorem cv_len : CallV1 X Cl (fun xs H Q => (∃ p ys, xs = [V.ref p] ∧ (SqL X.K H p ys ∨ SqT X.K H p ys) ∧ Q (.int ys.length) H) ∨ (∃ z : Str, xs = [.str z] ∧ z.length ≤ sizeLine ∧ Q (.int z.length) H)) gLen := by
  intro Hs H Fs v x rr Q s w e k
  unfold gLen at e
  obtain ⟨F, r1⟩ := w.rep
  split at e
  · rename_i ds ed
    cases e
    rw [ed] at r1
    obtain ⟨a, us, rfl, ha, _, ra⟩ := r1.lst_of
    refine .inl ⟨a, us, rfl, .inl (SqL.of ha), ?_⟩
    rw [ra.length]
    exact k _ _ (Same.refl _) (.pureV (.int _) rfl)
  · rename_i ds ed
    cases e
    rw [ed] at r1
    obtain ⟨a, us, rfl, ha, ra⟩ := r1.tup_of
    refine .inl ⟨a, us, rfl, .inr ha, ?_⟩
    rw [ra.length]
    exact k _ _ (Same.refl _) (.pureV (.int _) rfl)
  · rename_i ns ed
    cases e
    rw [ed] at r1
    obtain ⟨a, rfl, ha⟩ := scr_of r1
    refine .inl ⟨a, _, rfl, .inl ha, ?_⟩
    rw [List.length_map]
    exact k _ _ (Same.refl _) (.pureV (.int _) rfl)
  · rename_i z ed
    split at e <;> (first | (cases e; done) | skip)
    rename_i hl
    cases e
    rw [ed] at r1
    exact .inr ⟨z, by rw [r1.str_of], line_eq hl, k _ _ (Same.refl _) (.pureV (.int _) rfl)⟩
  · cases e
theorem ve_len {p pos : Pos} {e : Expr} {fa : VA} (hm : X.mg "len" = none) (ha : VAok X Cl [e] fa) (hg : Gl X "len" := by rfl) (he : starEach [e] X.env = (false, eval e X.env) :: starEach [] X.env := by rfl) (hpl : (backTo pos (starEach [] X.env)).any (·.1) = false := by rfl) :
    VEok X Cl (.Call (.Name "len" p) [e] [] pos) (vCall (g1 gLen) fa) := ve_callB (call_len_seq.or call_len_str) cv_len.all hm ha PySem.boot_len hg (by decide) (by decide) he hpl
def gInt : Rv → Option Rv := fun x => match x.d with
  | .int i => some ⟨.int i, 2, []⟩
  | .bl b => some ⟨.int (if b then 1 else 0), 2, []⟩
  | _ => none
theorem cv_int : CallV1 X Cl (fun xs H Q => (∃ i, xs = [V.int i] ∧ Q (.int i) H) ∨ ∃ k, xs = [V.bl k] ∧ Q (.int (if k then 1 else 0)) H) gInt := by
  intro Hs H Fs v x rr Q s w e k
  unfold gInt at e
  split at e
  · rename_i i ed
    cases e
    exact .inl ⟨i, by rw [val_int w ed], k _ _ (Same.refl _) (.pureV (.int _) rfl)⟩
  · rename_i i ed
    cases e
    exact .inr ⟨i, by rw [val_bl w ed], k _ _ (Same.refl _) (.pureV (.int _) rfl)⟩
  · cases e
def gAbs : Rv → Option Rv := fun x => match x.d with
  | .int i => some ⟨.int (if i < 0 then -i else i), 2, []⟩
  | _ => none
theorem cv_abs : CallV1 X Cl (fun xs H Q => ∃ i, xs = [V.int i] ∧ Q (.int (if i < 0 then -i else i)) H) gAbs := by
  intro Hs H Fs v x rr Q s w e k
  unfold gAbs at e
  split at e
  · rename_i i ed
    cases e
    exact ⟨i, by rw [val_int w ed], k _ _ (Same.refl _) (.pureV (.int _) rfl)⟩
  · cases e
theorem ve_intc {p pos : Pos} {e : Expr} {fa : VA} (hm : X.mg "int" = none) (ha : VAok X Cl [e] fa) (hg : Gl X "int" := by rfl) (he : starEach [e] X.env = (false, eval e X.env) :: starEach [] X.env := by rfl) (hpl : (backTo pos (starEach [] X.env)).any (·.1) = false := by rfl) :
    VEok X Cl (.Call (.Name "int" p) [e] [] pos) (vCall (g1 gInt) fa) := ve_callTy call_int1 cv_int.all hm ha (by decide +kernel) hg (by decide) (by decide) he hpl
theorem ve_abs {p pos : Pos} {e : Expr} {fa : VA} (hm : X.mg "abs" = none) (ha : VAok X Cl [e] fa) (hg : Gl X "abs" := by rfl) (he : starEach [e] X.env = (false, eval e X.env) :: starEach [] X.env := by rfl) (hpl : (backTo pos (starEach [] X.env)).any (·.1) = false := by rfl) :
    VEok X Cl (.Call (.Name "abs" p) [e] [] pos) (vCall (g1 gAbs) fa) := ve_callB call_abs cv_abs.all hm ha (by decide +kernel) hg (by decide) (by decide) he hpl
end
end VL

namespace VL
open PySem PySem.Spec L2

section
variable {X : Cx} {W : WX} {Cl : ClsT}
/-! ### blocks and small statements -/
def vSeq (f g : VS) : VS := fun env => match f env with
  | .nx e => g e
  | r => r
theorem vb_nil : VBok X W Cl [] (fun e => .nx e) := ⟨_, pss_nil, fun H0 G D σ H env Fs ow S k => k σ H Fs ow (Stp.refl _ _) S⟩
theorem vb_one {st : Stmt} {f : VS} (h : VSok X W Cl st f) : VBok X W Cl [st] f := let ⟨t, p, q⟩ := h; ⟨t, pss_one p, q⟩
theorem vb_cons {st : Stmt} {rest : List Stmt} {f g : VS} (h1 : VSok X W Cl st f) (h2 : VBok X W Cl rest g) : VBok X W Cl (st :: rest) (vSeq f g) := by
  obtain ⟨t, p, q⟩ := h1
  obtain ⟨u, p2, q2⟩ := h2
  refine ⟨_, pss_cons p p2, fun H0 G D σ H env Fs ow S k => q _ _ _ _ _ _ _ _ S ?_⟩
  unfold vSeq at k
  cases e : f env with
  | nx e1 =>
    rw [e] at k
    exact fun σ' H' Fs' ow' s x => q2 _ _ _ _ _ _ _ _ x (k.later s)
  | bk e1 => rw [e] at k; exact k
  | ct e1 => rw [e] at k; exact k
  | ret d l => rw [e] at k; exact k
  | ex e1 c fs => rw [e] at k; exact k
  | no => rw [e] at k; exact k
theorem vs_pass {pos : Pos} : VSok X W Cl (.Pass pos) (fun e => .nx e) := ⟨_, ps_pass, fun H0 G D σ H env Fs ow S k => k σ H Fs ow (Stp.refl _ _) S⟩
theorem vs_break {pos : Pos} : VSok X W Cl (.Break pos) (fun e => .bk e) := ⟨_, ps_break, fun H0 G D σ H env Fs ow S k => k σ H Fs ow (Stp.refl _ _) S⟩
theorem vs_continue {pos : Pos} : VSok X W Cl (.Continue pos) (fun e => .ct e) := ⟨_, ps_continue, fun H0 G D σ H env Fs ow S k => k σ H Fs ow (Stp.refl _ _) S⟩
theorem vs_never {st : Stmt} : VSok X W Cl st (fun _ => .no) := ⟨_, ps_never, fun H0 G D σ H env Fs ow S k => k⟩
theorem vs_doc {x : Str} {j : Nat} {pos pos' : Pos} : VSok X W Cl (.Expr (.Constant (.str x) j pos) pos') (fun e => .nx e) := ⟨_, ps_doc, fun H0 G D σ H env Fs ow S k => k σ H Fs ow (Stp.refl _ _) S⟩
/-- an expression alone -/
def vDrop (f : VE) : VS := fun env => match f env with
  | some _ => .nx env
  | none => .no
theorem vs_expr {e : Expr} {pos : Pos} {f : VE} (h : VEok X Cl e f) (hs : swapsWith e none pos.line X.env = pure false := by rfl) : VSok X W Cl (.Expr e pos) (vDrop f) := by
  obtain ⟨t, p, q⟩ := h
  refine ⟨_, ps_expr p hs, fun H0 G D σ H env Fs ow S k => ?_⟩
  unfold vDrop at k
  split at k
  · rename_i r er
    exact q _ _ _ _ _ _ _ _ _ S er fun v H1 s1 w1 => k σ H1 Fs ow (.of_same s1 fun _ h => .inl h) (S.go s1)
  · exact k.elim
theorem RetOk.of {K : PySem.W.Frag} {H0 H H' : Hp} {G : ASet} {σ : L2.St} {env : Ev} {Fs : Nat → ASet} {ow : Nat → List Addr} {v : V} {r : Rv} (S : StOk K Cl H0 G σ H env Fs ow) (w : ValOk K Cl H H' Fs v r) : RetOk K Cl H0 H' G v r.d r.l := by
  obtain ⟨F, wo, h1, h2, h3, h4, h5⟩ := w
  refine ⟨F, wo, h1, h2, fun a f => ?_, h4, fun a ha => S.same.free (h5 a ha)⟩
  rcases h3 a f with h | ⟨j, _, h⟩
  · exact .inl (S.same.free h)
  · exact S.base j a h
def vRet (f : VE) : VS := fun env => match f env with
  | some r => .ret r.d r.l
  | none => .no
theorem vs_ret {e : Expr} {pos : Pos} {f : VE} (h : VEok X Cl e f) : VSok X W Cl (.Return (some e) pos) (vRet f) := by
  obtain ⟨t, p, q⟩ := h
  refine ⟨_, ps_ret p, fun H0 G D σ H env Fs ow S k => ?_⟩
  unfold vRet at k
  split at k
  · rename_i r er
    exact q _ _ _ _ _ _ _ _ _ S er fun v H1 s1 w1 => k v H1 (fun a o e _ => s1 a o e) (.of S w1)
  · exact k.elim
/-- return x, x a name: what was its own goes with it -/
def vRetName (i : Nat) : VS := fun env => match env[i]? with
  | some (some (fl, d)) => .ret d fl
  | _ => .no
theorem vs_retName (i : Nat) {x : Str} {p pos : Pos} (hN : X.N[i]? = some x := by rfl) (hv : Vis X.env.scope x := by first | exact Or.inl rfl | exact Or.inr (Or.inl rfl) | exact Or.inr (Or.inr rfl)) (hd : (x == ("__debug__" : Str)) = false := by decide)
    (hcd : (x == ("__classdict__" : Str)) = false := by decide) : VSok X W Cl (.Return (some (.Name x p)) pos) (vRetName i) := by
  refine ⟨_, ps_ret (pe_var (i := i) hN hv hd hcd), fun H0 G D σ H env Fs ow S k => ?_⟩
  unfold vRetName at k
  split at k
  · rename_i fl d e1
    obtain ⟨v, h1, h2, h3⟩ := S.val i fl d e1
    exact ⟨v, h1, k v H (fun a o e _ => e) ⟨Fs i, ow i, h2, S.trk i, S.base i, h3, fun a ha => (S.own i a ha).2.1⟩⟩
  · exact k.elim
theorem vs_retN {pos : Pos} : VSok X W Cl (.Return none pos) (fun _ => .ret .non 2) := by
  refine ⟨_, ps_retN, fun H0 G D σ H env Fs ow S k => ?_⟩
  exact k .non H (fun a o e _ => e) ⟨fun _ => False, [], .non, fun _ f => f.elim, fun _ f => f.elim, .pure rfl, fun _ z => by cases z⟩
def vIfS (c : VT) (f g : VS) : VS := fun env => match c env with
  | some true => f env
  | some false => g env
  | none => .no
theorem vs_if {c : Expr} {a b : List Stmt} {pos : Pos} {h : VT} {f g : VS} (hc : VTok X Cl c h) (ha : VBok X W Cl a f) (hb : VBok X W Cl b g) : VSok X W Cl (.If c a b pos) (vIfS h f g) := by
  obtain ⟨tc, pc, qc⟩ := hc
  obtain ⟨ta, pa, qa⟩ := ha
  obtain ⟨tb, pb, qb⟩ := hb
  refine ⟨_, ps_if pc pa pb, fun H0 G D σ H env Fs ow S k => ?_⟩
  unfold vIfS at k
  split at k
  · rename_i e
    exact qc _ _ _ _ _ _ _ _ _ S e fun H1 s1 => iteT (qa _ _ _ _ _ _ _ _ (S.go s1) (k.later (.of_same s1 fun _ h => .inl h)))
  · rename_i e
    exact qc _ _ _ _ _ _ _ _ _ S e fun H1 s1 => iteF (qb _ _ _ _ _ _ _ _ (S.go s1) (k.later (.of_same s1 fun _ h => .inl h)))
  · exact k.elim

/-! ### targets -/
/-- only the slots of T differ -/
def OnlyT (T : List Nat) (σ σ' : L2.St) : Prop := σ'.length = σ.length ∧ ∀ j, j ∉ T → σ'[j]? = σ[j]?
theorem OnlyT.trans {T T' : List Nat} {a b c : L2.St} (h : OnlyT T a b) (k : OnlyT T' b c) : OnlyT (T ++ T') a c := ⟨k.1.trans h.1, fun j hj => by
  rw [List.mem_append] at hj
  rw [k.2 j (fun z => hj (.inr z)), h.2 j (fun z => hj (.inl z))]⟩
abbrev VG := D → Ev → Option Ev
def VGok (X : Cx) (Cl : ClsT) (T : List Nat) (tg : Expr) (g : VG) : Prop := ∃ t, PG X tg t ∧ ∀ (H0 : Hp) (G : ASet) (σ : L2.St) (H : Hp) (env env' : Ev) (Fs : Nat → ASet) (ow : Nat → List Addr) (F : ASet) (v : V) (d : D) (Q : L2.St → Hp → Prop), StOk X.K Cl H0 G σ H env Fs ow →
  Sep X.K Cl H0 H G ow F v d → g d env = some env' → (∀ σ' Fs' ow', StOk X.K Cl H0 G σ' H env' Fs' ow' → (∀ a, Ow ow' a → Ow ow a) → (∀ j a, Fs' j a → Fs j a ∨ F a) → OnlyT T σ σ' → Q σ' H) → t v σ H Q
abbrev VGs := List D → Ev → Option Ev
def VGsok (X : Cx) (Cl : ClsT) (T : List Nat) (tg : List Expr) (g : VGs) : Prop := ∃ t, PGs X tg t ∧ ∀ (H0 : Hp) (G : ASet) (σ : L2.St) (H : Hp) (env env' : Ev) (Fs : Nat → ASet) (ow : Nat → List Addr) (F : ASet) (vs : List V) (ds : List D) (Q : L2.St → Hp → Prop), StOk X.K Cl H0 G σ H env Fs ow →
  (Reps X.K Cl H F vs ds ∧ (∀ a, F a → H a ≠ none) ∧ (∀ a, F a → H0 a = none ∨ G a) ∧ ∀ a, F a → ¬ Ow ow a) → g ds env = some env' → (∀ σ' Fs' ow', StOk X.K Cl H0 G σ' H env' Fs' ow' → (∀ a, Ow ow' a → Ow ow a) → (∀ j a, Fs' j a → Fs j a ∨ F a) → OnlyT T σ σ' → Q σ' H) → t vs σ H Q
def gN (i : Nat) : VG := fun d env => if i < env.length then some (env.set i (some (0, d))) else none
theorem vg_name (i : Nat) {x : Str} {pos : Pos} (hN : X.N.Nodup) (hi : X.N[i]? = some x := by rfl) (hx : Loc X.env.scope x := by first | exact Or.inl rfl | exact Or.inr rfl) (hf : X.fn x = true ∨ X.env.scope.names.lookup x = some .local := by first | exact .inl rfl | exact .inr rfl) : VGok X Cl [i] (.Name x pos) (gN i) := by
  refine ⟨_, pg_name (i := i) hN hi hx hf, fun H0 G σ H env env' Fs ow F v d Q S w e k => ?_⟩
  unfold gN at e
  split at e <;> (first | (cases e; done) | skip)
  rename_i hl
  cases e
  obtain ⟨Fs', ow', h1, h2, h3⟩ := S.put0 hl w
  exact k _ _ _ h3 h1 h2 ⟨List.length_set, fun j hj => List.getElem?_set_ne (fun z => hj (by rw [z]; exact List.mem_singleton.mpr rfl))⟩
def gsNil : VGs := fun ds env => match ds with
  | [] => some env
  | _ => none
def gsCons (g : VG) (gs : VGs) : VGs := fun ds env => match ds with
  | d :: r => match g d env with
    | some e => gs r e
    | none => none
  | [] => none
theorem vgs_nil : VGsok X Cl [] [] gsNil := by
  refine ⟨_, pgs_nil, fun H0 G σ H env env' Fs ow F vs ds Q S w e k => ?_⟩
  unfold gsNil at e
  split at e <;> (first | (cases e; done) | skip)
  cases e
  obtain ⟨r, _⟩ := w
  cases r
  exact ⟨rfl, k _ _ _ S (fun _ h => h) (fun _ _ f => .inl f) ⟨rfl, fun _ _ => rfl⟩⟩
theorem vgs_cons {e : Expr} {es : List Expr} {g : VG} {gs : VGs} {T T' : List Nat} (h1 : VGok X Cl T e g) (h2 : VGsok X Cl T' es gs) (hs : (assignEach (e :: es) X.env).map (·.2) = assign e X.env :: (assignEach es X.env).map (·.2) := by rfl) : VGsok X Cl (T ++ T') (e :: es) (gsCons g gs) := by
  obtain ⟨t, p, q⟩ := h1
  obtain ⟨u, p2, q2⟩ := h2
  refine ⟨_, pgs_cons p p2 hs, fun H0 G σ H env env' Fs ow F vs ds Q S w e k => ?_⟩
  unfold gsCons at e
  split at e <;> (first | (cases e; done) | skip)
  rename_i d r
  split at e <;> (first | (cases e; done) | skip)
  rename_i e1 he1
  obtain ⟨rr, h2, h3, h4⟩ := w
  cases rr with
  | cons a b =>
    refine ⟨_, _, rfl, q _ _ _ _ _ _ _ _ _ _ _ _ S ⟨a, h2, h3, h4⟩ he1 fun σ' Fs' ow' S' m l o => ?_⟩
    exact q2 _ _ _ _ _ _ _ _ _ _ _ _ S' ⟨b, h2, h3, fun a f o => h4 a f (m a o)⟩ e fun σ2 Fs2 ow2 S2 m2 l2 o2 => k _ _ _ S2 (fun a o => m a (m2 a o)) (fun j a f => (l2 j a f).elim (l j a) .inr) (o.trans o2)
def gT (n : Nat) (gs : VGs) : VG := fun d env => match d with
  | .tup ds => if ds.length = n then gs ds env else none
  | _ => none
theorem vg_tup {es : List Expr} {kk n : Nat} {pos : Pos} {gs : VGs} {T : List Nat} (hc : X.calm = true) (h : VGsok X Cl T es gs) (hn : (assignEach es X.env).length = n := by rfl) (hst : (assignEach es X.env).findIdx? (·.1) = none := by rfl) : VGok X Cl T (.Tuple es kk pos) (gT n gs) := by
  obtain ⟨t, p, q⟩ := h
  refine ⟨_, pg_tup hc p hn hst, fun H0 G σ H env env' Fs ow F v d Q S w e k => ?_⟩
  unfold gT at e
  split at e <;> (first | (cases e; done) | skip)
  rename_i ds
  split at e <;> (first | (cases e; done) | skip)
  rename_i hl
  obtain ⟨rr, h2, h3, h4⟩ := w
  obtain ⟨a, us, rfl, ha, ra⟩ := rr.tup_of
  exact ⟨a, us, rfl, ha, by rw [ra.length, hl], q _ _ _ _ _ _ _ _ _ _ _ _ S ⟨ra, h2, h3, h4⟩ e k⟩

/-! ### assignments -/
def vSet (i : Nat) (f : VE) : VS := fun env => match f env with
  | some r => if i < env.length then .nx (put i r env) else .no
  | none => .no
theorem vs_set (i : Nat) {x : Str} {e : Expr} {pos pos' : Pos} {f : VE} (hN : X.N.Nodup) (h : VEok X Cl e f) (hi : X.N[i]? = some x := by rfl) (hx : Loc X.env.scope x := by first | exact Or.inl rfl | exact Or.inr rfl) (hs : swapsWith e (some (.Name x pos')) pos.line X.env = pure false := by rfl) (hf : X.fn x = true ∨ X.env.scope.names.lookup x = some .local := by first | exact .inl rfl | exact .inr rfl) : VSok X W Cl (.Assign [.Name x pos'] e pos) (vSet i f) := by
  obtain ⟨t, p, q⟩ := h
  refine ⟨_, ps_set (i := i) hN hi hx p hs hf, fun H0 G D σ H env Fs ow S k => ?_⟩
  unfold vSet at k
  split at k
  · rename_i r er
    split at k
    · rename_i hl
      refine q _ _ _ _ _ _ _ _ _ S er fun v H1 s1 w1 => ?_
      obtain ⟨Fs', ow', h1, h2⟩ := S.put hl s1 w1
      exact k _ _ _ _ h1 h2
    · exact k.elim
  · exact k.elim
def vAsg (f : VE) (g : VG) : VS := fun env => match f env with
  | some r => match g r.d (frz r.al env) with
    | some e => .nx e
    | none => .no
  | none => .no
theorem vs_asg {tg e : Expr} {pos : Pos} {f : VE} {g : VG} {T : List Nat} (h : VEok X Cl e f) (hg : VGok X Cl T tg g) (hs : swapsWithSole [tg] e pos.line X.env = pure false := by rfl) (hw : swappedStores [tg] e X.env = pure none := by rfl)
    (h1 : (assignEach [tg] X.env).map (·.2) = [assign tg X.env] := by rfl) : VSok X W Cl (.Assign [tg] e pos) (vAsg f g) := by
  obtain ⟨t, p, q⟩ := h
  obtain ⟨u, p2, q2⟩ := hg
  refine ⟨_, ps_asg p p2 hs hw h1, fun H0 G D σ H env Fs ow S k => ?_⟩
  unfold vAsg at k
  split at k
  · rename_i r er
    split at k
    · rename_i e1 he1
      refine q _ _ _ _ _ _ _ _ _ S er fun v H1 s1 w1 => ?_
      obtain ⟨F, w2⟩ := w1.sep S
      refine q2 _ _ _ _ _ _ _ _ _ _ _ _ ((S.frz (al := r.al)).go s1) w2 he1 fun σ' Fs' ow' S' m _ _ => ?_
      exact k _ _ _ _ (.of_same s1 fun a h => .inl (let ⟨j, hj⟩ := m a h; ⟨j, noOws_sub (al := r.al) j a hj⟩)) S'
    · exact k.elim
  · exact k.elim

/-! ### loops -/
abbrev VI := Ev → Option (List D × List Nat)
/-- what is walked: F the places that it leans on -/
def VIok (X : Cx) (Cl : ClsT) (tg iter : Expr) (f : VI) : Prop := ∃ wi, PI X tg iter wi ∧ ∀ (H0 : Hp) (G : ASet) (σ : L2.St) (H : Hp) (env : Ev) (Fs : Nat → ASet) (ow : Nat → List Addr) (ds : List D) (al : List Nat) (R : It → Hp → Prop), StOk X.K Cl H0 G σ H env Fs ow → f env = some (ds, al) →
  (∀ (J : It) (H' : Hp) (n : Nat) (GG : Hp → Prop) (Y : Nat → Hp → V → Hp → Prop) (F : ASet), Same H H' → Walk J n GG Y → n = ds.length → n ≤ sizeLine → (∀ a, F a → H' a ≠ none) → (∀ a, F a → H a = none ∨ ∃ j ∈ al, Fs j a) → (∀ H2, Stay F H' H2 → GG H2) →
    (∀ i H2 x H3, i < n → Stay F H' H2 → Y i H2 x H3 → Same H2 H3 ∧ ∃ d, ds[i]? = some d ∧ Rep X.K Cl H3 F x d) → R J H') → wi σ H R
def loopV (g : VG) (body : VS) : List D → Ev → Rs
  | [], e => .nx e
  | d :: ds, e => match g d e with
    | some e1 => match body e1 with
      | .nx e2 => loopV g body ds e2
      | .ct e2 => loopV g body ds e2
      | .bk e2 => .nx e2
      | r => r
    | none => .no
def vFor (f : VI) (g : VG) (body : VS) : VS := fun env => match f env with
  | some (ds, al) => loopV g body ds (frz al env)
  | none => .no
theorem Stay.later {F : ASet} {H H1 H2 : Hp} (a : Stay F H H1) (b : Stay F H1 H2) : Stay F H H2 := ⟨fun x o f e => b.at_ x o f (a.at_ x o f e), fun x xs e => b.tup x xs (a.tup x xs e), fun x o u e => b.frz x o u (a.frz x o u e), fun x xs e => b.xd x xs (a.xd x xs e)⟩
theorem vs_for {tg iter : Expr} {body : List Stmt} {pos : Pos} {f : VI} {g : VG} {b : VS} {T : List Nat} (hp : PassesOwn (model X.prog X.w) X.A X.env X.xe) (hc : X.calm = true) (hi : VIok X Cl tg iter f) (hg : VGok X Cl T tg g) (hb : VBok X W Cl body b)
    (hs : ∀ x, foldedSetIterable iter X.env x = pure x := by intro _; rfl) : VSok X W Cl (.For tg iter body [] pos) (vFor f g b) := by
  obtain ⟨wi, pi, qi⟩ := hi
  obtain ⟨tgt, pg, qg⟩ := hg
  obtain ⟨tb, pb, qb⟩ := hb
  refine ⟨_, ps_for hp hc pi pg pb hs, fun H0 G D σ H env Fs ow S k => ?_⟩
  unfold vFor at k
  split at k <;> (first | (exact k.elim; done) | skip)
  rename_i ds al ef
  refine qi _ _ _ _ _ _ _ _ _ _ S ef fun J H1 n GG Y F s1 wk hn hz ht hf hG hY => ?_
  -- the state behind the freezing
  have S1 : StOk X.K Cl H0 G σ H1 (frz al env) Fs (noOws al ow) := (S.frz (al := al)).go s1
  have nF : ∀ a, F a → ¬ Ow (noOws al ow) a := fun a fa ⟨j, hj⟩ => by
    have hj' := noOws_sub (al := al) j a hj
    obtain ⟨q1, q2, q3⟩ := S.own j a hj'
    rcases hf a fa with h | ⟨m, hm, h⟩
    · exact S.trk j a q1 h
    · by_cases e : m = j
      · subst e; exact noOws_not hj hm
      · exact q3 m e h
  have bF : ∀ a, F a → H0 a = none ∨ G a := fun a fa => by
    rcases hf a fa with h | ⟨m, _, h⟩
    · exact .inl (S.same.free h)
    · exact S.base m a h
  have k1 : EndOk X.K Cl W H0 G D H1 (noOws al ow) (loopV g b ds (frz al env)) := k.later (.of_same s1 fun a ⟨j, hj⟩ => .inl ⟨j, noOws_sub (al := al) j a hj⟩)
  refine for_it wk (fun i σ' H' => ∃ e' Fs' ow', StOk X.K Cl H0 G σ' H' e' Fs' ow' ∧ Stp H1 (noOws al ow) H' ow' ∧ EndOk X.K Cl W H0 G D H' ow' (loopV g b (ds.drop i) e')) ⟨_, _, _, S1, Stp.refl _ _, k1⟩ (fun i σ' H' _ ⟨e', Fs', ow', _, st, _⟩ => hG H' (S1.stay st nF)) ?_ ?_
  · rintro i x σ' H' H2 hin ⟨e', Fs', ow', S', st, kk⟩ hy
    have stay := S1.stay (F := F) st nF
    obtain ⟨s2, d, hd, rd⟩ := hY i H' x H2 hin stay hy
    have hdrop : ds.drop i = d :: ds.drop (i + 1) := by
      have hi' : i < ds.length := by omega
      rw [List.drop_eq_getElem_cons hi']
      congr
      rw [List.getElem?_eq_getElem hi'] at hd
      exact Option.some.inj hd
    rw [hdrop, loopV] at kk
    cases eg : g d e' with
    | none => rw [eg] at kk; exact kk.elim
    | some e1 =>
      rw [eg] at kk
      dsimp only at kk
      have S2 := S'.go s2
      have st2 : Stp H1 (noOws al ow) H2 ow' := st.trans (.of_same s2 fun _ h => .inl h)
      have nF2 : ∀ a, F a → ¬ Ow ow' a := fun a fa ho => by
        rcases st.own a ho with h | h
        · exact nF a fa h
        · exact ht a fa h
      have tr2 : ∀ a, F a → H2 a ≠ none := fun a fa z => by
        cases e0 : H1 a with
        | none => exact ht a fa e0
        | some o => rw [st2.keep a o e0 (nF a fa)] at z; cases z
      refine qg _ _ _ _ _ _ _ _ _ _ _ _ S2 ⟨rd, tr2, bF, nF2⟩ eg fun σ3 Fs3 ow3 S3 m3 _ _ => ?_
      have st3 : Stp H1 (noOws al ow) H2 ow3 := ⟨st2.keep, fun a h => st2.own a (m3 a h)⟩
      have st3' : Stp H' ow' H2 ow3 := .of_same s2 fun a h => .inl (m3 a h)
      have kk2 := EndOk.later kk st3'
      refine qb _ _ _ _ _ _ _ _ S3 ?_
      cases eb : b e1 with
      | nx e2 =>
        rw [eb] at kk2
        exact fun σ4 H4 Fs4 ow4 s4 S4 => ⟨e2, Fs4, ow4, S4, st3.trans s4, EndOk.later kk2 s4⟩
      | ct e2 =>
        rw [eb] at kk2
        exact fun σ4 H4 Fs4 ow4 s4 S4 => ⟨e2, Fs4, ow4, S4, st3.trans s4, EndOk.later kk2 s4⟩
      | bk e2 => rw [eb] at kk2; exact fun σ4 H4 Fs4 ow4 s4 S4 => kk2 σ4 H4 Fs4 ow4 s4 S4
      | ret d l => rw [eb] at kk2; exact kk2
      | ex e2 c fs => rw [eb] at kk2; exact kk2
      | no => rw [eb] at kk2; exact kk2.elim
  · rintro σ' H' ⟨e', Fs', ow', S', st, kk⟩
    rw [hn, List.drop_length, loopV] at kk
    exact kk σ' H' Fs' ow' (Stp.refl _ _) S'
def whileV (c : VT) (body : VS) : Nat → Ev → Rs
  | 0, _ => .no
  | n + 1, e => match c e with
    | some true => match body e with
      | .nx e2 => whileV c body n e2
      | .ct e2 => whileV c body n e2
      | .bk e2 => .nx e2
      | r => r
    | some false => .nx e
    | none => .no
theorem vs_while (n : Nat) {c : Expr} {body : List Stmt} {pos : Pos} {f : VT} {b : VS} (hp : PassesOwn (model X.prog X.w) X.A X.env X.xe) (hc : VTok X Cl c f) (hb : VBok X W Cl body b) : VSok X W Cl (.While c body [] pos) (whileV f b n) := by
  obtain ⟨tc, pc, qc⟩ := hc
  obtain ⟨tb, pb, qb⟩ := hb
  refine ⟨_, ps_while hp pc pb, fun H0 G D σ H env Fs ow S k => ?_⟩
  refine ⟨fun m σ' H' => ∃ e' Fs' ow', StOk X.K Cl H0 G σ' H' e' Fs' ow' ∧ EndOk X.K Cl W H0 G D H' ow' (whileV f b m e'), ⟨n, env, Fs, ow, S, k⟩, ?_⟩
  rintro m σ' H' ⟨e', Fs', ow', S', kk⟩
  cases m with
  | zero => exact kk.elim
  | succ m =>
    rw [whileV] at kk
    cases ec : f e' with
    | none => rw [ec] at kk; exact kk.elim
    | some t =>
      rw [ec] at kk
      refine qc _ _ _ _ _ _ _ _ _ S' ec fun H1 s1 => ?_
      have st : Stp H' ow' H1 ow' := .of_same s1 fun _ h => .inl h
      cases t with
      | false =>
        dsimp only at kk
        exact iteF (kk σ' H1 Fs' ow' st (S'.go s1))
      | true =>
        dsimp only at kk
        refine iteT ⟨fun σ2 H2 => ∃ e2 Fs2 ow2, StOk X.K Cl H0 G σ2 H2 e2 Fs2 ow2 ∧ EndOk X.K Cl W H0 G D H2 ow2 (whileV f b m e2), fun σ2 H2 ⟨e2, Fs2, ow2, S2, k2⟩ => ⟨m, Nat.lt_succ_self m, e2, Fs2, ow2, S2, k2⟩, ?_⟩
        have kk2 := EndOk.later kk st
        refine qb _ _ _ _ _ _ _ _ (S'.go s1) ?_
        cases eb : b e' with
        | nx e2 => rw [eb] at kk2; exact fun σ4 H4 Fs4 ow4 s4 S4 => ⟨e2, Fs4, ow4, S4, EndOk.later kk2 s4⟩
        | ct e2 => rw [eb] at kk2; exact fun σ4 H4 Fs4 ow4 s4 S4 => ⟨e2, Fs4, ow4, S4, EndOk.later kk2 s4⟩
        | bk e2 => rw [eb] at kk2; exact fun σ4 H4 Fs4 ow4 s4 S4 => kk2 σ4 H4 Fs4 ow4 s4 S4
        | ret d l => rw [eb] at kk2; exact kk2
        | ex e2 c fs => rw [eb] at kk2; exact kk2
        | no => rw [eb] at kk2; exact kk2.elim
end
end VL

namespace PySem
open Sem (wp)
set_option maxHeartbeats 1000000 in
theorem vl_meets_enumerate_new1 {v : Value} {o : Obj} {H : Heap → Prop} (B : Begins v o H) :
    Meets (Builtin.«enumerate.__new__» ⟨[.type "enumerate", v], []⟩) (fun _ R s => H s.heap ∧
      R (.ok (.ret (.ref (s.heap.push o).objs.size))) { s with heap := (s.heap.push o).push { cls := .type "enumerate", data := .fields #[.none, .bool false, .ref s.heap.objs.size, rawInt 0, .none, .none] } }) :=
  .of_wp fun prog w A R s h => by
    obtain ⟨hp, g, d, tk, os⟩ := s; obtain ⟨h1, h⟩ := h
    have hsub := sub_enumerate
    have q1 : ∀ {A' : Around} {E : Value → Shared → Prop} {Q : Value → Shared → Prop}, Q (.ref hp.objs.size) ⟨hp.push o, g, d, tk, os⟩ → wpAny (model prog w) A' (pyIter v) Q E ⟨hp, g, d, tk, os⟩ :=
      fun q => B.iter prog w _ _ ⟨hp, g, d, tk, os⟩ _ h1 q
    wp_walk using q1
    refine wpAny_stack_any fun st => wpAny_pure ?_
    split
    · rename_i c _ _ _ _ _
      cases (c == Value.type "enumerate")
      · wp_walk using q1
        exact ⟨_, rfl, h⟩
      · wp_walk using q1
        exact ⟨_, rfl, h⟩
    · wp_walk using q1
      exact ⟨_, rfl, h⟩
theorem vl_enum_begins1 {prog : Program} {w : World} {A : Around} {E : Value → Shared → Prop} {s : Shared} {v : Value} {o : Obj} {H : Heap → Prop} {Q : Value → Shared → Prop} (B : Begins v o H) (h1 : H s.heap)
    (h : ∀ h', IsEnum h' (s.heap.objs.size + 1) s.heap.objs.size 0 .none → h'.get? s.heap.objs.size = some o → h'.objs.size = s.heap.objs.size + 2 →
      (∀ b o, s.heap.get? b = some o → h'.get? b = some o) → Q (.ref (s.heap.objs.size + 1)) { s with heap := h' }) :
    wpAny (model prog w) A (call (.type "enumerate") [v]) Q E s := by
  refine callType_new F.called_enumerate (by decide) (F.typeCall_enumerate_1 _) (F.newCall_enumerate_1 _) (fun obj => F.args_object_init_2 obj _) F.entry_enumerate_new
    (vl_meets_enumerate_new1 B) ⟨h1, ?_⟩
  have hz : (s.heap.push o).objs.size = s.heap.objs.size + 1 := Heap.size_push ..
  show _ ∧ _
  rw [hz]
  have he : IsEnum ((s.heap.push o).push { cls := .type "enumerate", data := .fields #[.none, .bool false, .ref s.heap.objs.size, rawInt 0, .none, .none] }) (s.heap.objs.size + 1) s.heap.objs.size 0 .none := by
    have := Heap.get?_push_size (s.heap.push o) (o := { cls := .type "enumerate", data := .fields #[.none, .bool false, .ref s.heap.objs.size, rawInt 0, .none, .none] }) rfl
    rw [hz] at this; exact this
  refine ⟨⟨_, he, rfl⟩, h _ he (Heap.get?_push_of_some _ (Heap.get?_push_size _ B.free)) (by rw [Heap.size_push, hz]) fun b o x => Heap.get?_push_of_some _ (Heap.get?_push_of_some _ x)⟩
end PySem
namespace VL
open PySem PySem.Spec L2 PyProof.Rows

/-! ### enumerate of a tuple -/
def IteT (K : PySem.W.Frag) (a : Addr) : It :=
  ⟨fun i H => ∃ (xs : List V) (x : V), SqT K H a xs ∧ xs[i]? = some x, fun i H v H' => ∃ T x, v = .ref T ∧ H T = none ∧ H' = upd H T (.tup [.int (i : Nat), x]) ∧ ∀ xs, SqT K H a xs → xs[i]? = some x, fun i H => ∃ xs : List V, SqT K H a xs ∧ xs.length ≤ i⟩
theorem turn_enumT {P : Program} {w : World} {K : PySem.W.Frag} {elts : List Expr} {kk : Nat} {tpos : Pos} (a e it : Addr) (hai : a ≠ it) (hea : e ≠ a) :
    Turn P w K (.Tuple elts kk tpos) (IteT K a) [e, it] e (fun i h => (∃ old, IsEnum h e it ((i : Nat) : Int) old) ∧ h.IsTupleIter it a i ∧ e ≠ it) where
  mem := by simp
  obj := fun i h st b hb => by
    obtain ⟨⟨old, he⟩, ⟨o, ho, hc, hd⟩, _⟩ := st
    have e' : b = e ∨ b = it := by simpa using hb
    rcases e' with z | z
    · rw [z]; exact ⟨_, he, fun v q => nomatch q⟩
    · rw [z]; exact ⟨o, ho, fun v q => by rw [hd] at q; cases q⟩
  keep := fun i h h' st k => let ⟨⟨old, he⟩, hi, hne⟩ := st; ⟨⟨old, k e (by simp) _ he⟩, hi.at fun o q => k it (by simp) o q, hne⟩
  item := by
    intro X hP hw hK hc i pins s σ H E I hf st hg
    subst hP hw hK
    obtain ⟨⟨old, he⟩, hit, hne⟩ := st
    obtain ⟨xs, x, hq, hx⟩ := hg
    obtain ⟨its, rv, p, hz⟩ := I.tuple hq
    obtain ⟨u, hu, ru⟩ := rv.get hx
    have hel : e < s.heap.objs.size := Heap.lt_size he
    have hil : it < s.heap.objs.size := by obtain ⟨_, q, _⟩ := hit; exact Heap.lt_size q
    have D := Draws.tuple (prog := X.prog) (w := X.w) (A := X.A.in1) (show X.A.in1.handled = none from I.ok.hd hc) it a hai its.toArray
    have hsz := its.length
    have hil2 : i < its.toArray.size := by
      have := (List.getElem?_eq_some_iff.mp hu).1
      simpa using this
    refine wpAny_pyNext_enum_itemD D he ⟨hit, (show s.heap.IsTuple a its.toArray from p)⟩ hil2 hne (by simp; exact ⟨hne, hea⟩) fun u' h' tk hu' ho hst' hT hsz hk => ?_
    have eu : u' = u := by
      have q : its.toArray[i]? = some u := by simpa using hu
      rw [q] at hu'; cases hu'; rfl
    subst eu
    refine ⟨_, rfl, wpAny_letOwnedTupleGo_enum (s := { s with heap := h', toks := tk + 1 }) ho fun h'' he' sb => ?_⟩
    have hT2 : h''.get? s.heap.objs.size = some { cls := .type "tuple", data := .seq #[.int i tk, u'] } := (sb.2 _ (Nat.ne_of_gt hel)).trans hT
    have new : ObjOk X.prog X.w (upd H s.heap.objs.size (.tup [.int (i : Nat), x])) h'' s.heap.objs.size (.tup [.int (i : Nat), x]) :=
      ⟨by show 2 ≤ sizeLine; decide, [.int i tk, u'], .cons ⟨_, rfl⟩ (.cons ru .nil), ⟨_, hT2, rfl, _, rfl⟩⟩
    have I1 : Inv X pins σ (upd H s.heap.objs.size (.tup [.int (i : Nat), x])) { s with heap := h'', toks := tk + 1 } :=
      I.turnedNew (ch := [e, it]) (fun b ob hb q => (sb.2 b (fun z => hb (by simp [z]))).trans (hk b ob (fun z => hb (by simp [z])) (fun z => hb (by simp [z])) q)) hf (Nat.le_refl _) new
    refine ⟨.ref s.heap.objs.size, _, I1, rfl, ⟨_, x, rfl, I.hok.fresh (Nat.le_refl _), rfl, fun ys hy => by rw [I.tuple_inj hy hq]; exact hx⟩, ⟨⟨u', ?_⟩, hst'.1.at fun o q => (sb.2 it (Ne.symm hne)).trans q, hne⟩, fun b hb => ?_⟩
    · have e1 : ((i + 1 : Nat) : Int) = (i : Int) + 1 := by omega
      rw [e1]; exact he'
    · have hb' : b < s.heap.objs.size := by
        have e' : b = e ∨ b = it := by simpa using hb
        rcases e' with z | z
        · rw [z]; exact hel
        · rw [z]; exact hil
      rw [upd_ne (Nat.ne_of_lt hb')]
      exact (hf b hb).1
  done := by
    intro X hP hw hK hc i pins s σ H E I hf st hg
    subst hP hw hK
    obtain ⟨⟨old, he⟩, hit, hne⟩ := st
    obtain ⟨xs, hq, hx⟩ := hg
    obtain ⟨its, rv, p, hz⟩ := I.tuple hq
    obtain ⟨f0, f1, f2, f3, f4, f5⟩ := hf it (by simp)
    have hl := rv.length
    -- the items are all taken: the end of what it draws
    have D := Draws.tuple (prog := X.prog) (w := X.w) (A := X.A.in1) (show X.A.in1.handled = none from I.ok.hd hc) it a hai its.toArray
    refine wpAny_pyNext_enum_endD (St := fun _ h => h.IsTupleIter it a i ∧ h.IsTuple a its.toArray) (fp := [it, a]) (n := 0) (P := fun _ _ => True) ⟨fun _ h st => let ⟨o, ho, _⟩ := st.1; ⟨o, ho⟩, fun _ h h' st hk => ⟨st.1.at fun o e => hk it (by simp) o e, st.2.at fun o e => hk a (by simp) o e⟩, fun i' s Q E hi => absurd hi (Nat.not_lt_zero _), fun s Q E st hE => wpAny_nextOf_tuple_end (show X.A.in1.handled = none from I.ok.hd hc) st.1 st.2 (by simp; omega) hE⟩ he ⟨hit, (show s.heap.IsTuple a its.toArray from p)⟩ fun h' eb => ⟨rfl, I.turned (t' := s.toks) (fun b o hb q => eb b o hb q) f0 f1 f3 f4 f5⟩
  self := fun A i s Q E st h => let ⟨⟨_, he⟩, _⟩ := st; wpAny_pyIter_enum he h
def iEnumT (K : PySem.W.Frag) (ta : TA) : TI := fun σ H R => ta σ H fun vs H1 => ∃ a xs, vs = [.ref a] ∧ SqT K H1 a xs ∧ R (IteT K a) H1
theorem pi_enumT {X : Cx} {e : Expr} {ta : TA} {p pos tpos : Pos} {elts : List Expr} {kk : Nat} (hg : Gl X "enumerate") (hm : X.mg "enumerate" = none) (ha : PA X [e] ta) (hs : starEach [e] X.env = [(false, eval e X.env)] := by rfl) :
    PI X (.Tuple elts kk tpos) (.Call (.Name "enumerate" p) [e] [] pos) (iEnumT X.K ta) := by
  refine ⟨fun pins s σ H R I h => ?_⟩
  refine Call_ (ld_blt I hg hm boot_enumerate (PyProof.Rows.callWith_type1 (thn (ha.run pos pins s σ H _ I h) fun us s1 ⟨vs, H1, I1, r1, q1⟩ => ?_) hs rfl))
  obtain ⟨a, xs, ex, hq, q⟩ := q1
  subst ex
  cases r1 with
  | cons r rr =>
    cases rr
    cases r
    obtain ⟨its, rv, p', hz⟩ := I1.tuple hq
    have hal : a < s1.heap.objs.size := by obtain ⟨o, ho, _⟩ := p'; exact Heap.lt_size ho
    refine vl_enum_begins1 (begins_tuple a its.toArray) (show s1.heap.IsTuple a its.toArray from p') fun h' he hit hsz hk => wpAny_pyIter_enum he ?_
    have I2 : Inv X pins σ H1 { s1 with heap := h' } := I1.kept (t' := s1.toks) hk
    refine ⟨s1.heap.objs.size + 1, [s1.heap.objs.size + 1, s1.heap.objs.size], _, _, H1, rfl, I2, turn_enumT a (s1.heap.objs.size + 1) s1.heap.objs.size (Nat.ne_of_lt hal) (Nat.ne_of_gt (Nat.lt_succ_of_lt hal)), ⟨⟨.none, he⟩, ⟨_, hit, rfl, rfl⟩, Nat.succ_ne_self _⟩, fun b hb => ?_, q⟩
    have e' : b = s1.heap.objs.size + 1 ∨ b = s1.heap.objs.size := by simpa using hb
    have hle : s1.heap.objs.size ≤ b := by
      rcases e' with z | z
      · rw [z]; exact Nat.le_add_right _ _
      · rw [z]; exact Nat.le_refl _
    exact I1.fpOk hle (I1.hok.fresh hle)
theorem walk_enumT {K : PySem.W.Frag} {a : Addr} {xs : List V} : Walk (IteT K a) xs.length (fun H => SqT K H a xs) (YPair (fun i => some (.int (i : Nat))) (fun i => xs[i]?)) :=
  ⟨fun i _ hi q => ⟨xs, xs[i], q, by simp [hi]⟩, fun _ q => ⟨xs, q, Nat.le_refl _⟩, fun i H v H' hi q y => by
    obtain ⟨T, x, rfl, hT, rfl, hx⟩ := y
    exact ⟨T, .int (i : Nat), x, rfl, hT, rfl, rfl, hx xs q⟩⟩

section
variable {X : Cx} {Cl : ClsT}
theorem pi_or {tg iter : Expr} {w1 w2 : TI} (a : PI X tg iter w1) (b : PI X tg iter w2) : PI X tg iter (fun σ H R => w1 σ H R ∨ w2 σ H R) := ⟨fun pins s σ H R I h => h.elim (a.run pins s σ H R I) (b.run pins s σ H R I)⟩
theorem line_of_lst {K : PySem.W.Frag} {P : Program} {w : World} {H : Hp} {h : Heap} {a : Addr} {xs : List V} (ok : HOk P w H h) (e : H a = some (.lst xs)) : xs.length ≤ sizeLine := (show ObjOk P w H h a (.lst xs) from ok a _ e).1

/-- the items of a list, a tuple -/
def itemsD (x : Rv) : Option (List D × List Nat) := match x.d with
  | .lst ds => if ds.length ≤ 16777216 then some (ds, x.al) else none
  | .tup ds => if ds.length ≤ 16777216 then some (ds, x.al) else none
  | _ => none
def iSeq (f : VE) : VI := fun env => match f env with
  | some x => itemsD x
  | none => none
theorem vi_seq {tg e : Expr} {f : VE} (h : VEok X Cl e f) : VIok X Cl tg e (iSeq f) := by
  obtain ⟨t, p, q⟩ := h
  refine ⟨_, pi_or (pi_list p) (pi_tup p), fun H0 G σ H env Fs ow ds al R S e k => ?_⟩
  unfold iSeq at e
  split at e <;> (first | (cases e; done) | skip)
  rename_i x ex
  unfold itemsD at e
  split at e <;> (first | (cases e; done) | skip)
  · rename_i ds' ed
    split at e <;> (first | (cases e; done) | skip)
    rename_i hl
    cases e
    left
    refine q _ _ _ _ _ _ _ _ _ S ex fun v H1 s1 w1 => ?_
    obtain ⟨F, _, r1, t1, f1, _⟩ := w1
    rw [ed] at r1
    obtain ⟨a, xs, rfl, ha, fa, ra⟩ := r1.lst_of
    refine ⟨a, rfl, ⟨xs, SqL.of ha⟩, k _ H1 _ _ _ F s1 walk_list ra.length (line_eq (by rw [ra.length]; exact hl)) t1 f1 (fun H2 st => SqL.of (st.at_ _ _ fa ha)) fun i H2 y H3 hi st hy => ?_⟩
    obtain ⟨rfl, hy⟩ := hy
    obtain ⟨d, hd, rd⟩ := ra.get' hy
    exact ⟨Same.refl _, d, hd, rd.go st fun _ h => h⟩
  · rename_i ds' ed
    split at e <;> (first | (cases e; done) | skip)
    rename_i hl
    cases e
    right
    refine q _ _ _ _ _ _ _ _ _ S ex fun v H1 s1 w1 => ?_
    obtain ⟨F, _, r1, t1, f1, _⟩ := w1
    rw [ed] at r1
    obtain ⟨a, xs, rfl, ha, ra⟩ := r1.tup_of
    refine ⟨a, rfl, ⟨xs, ha⟩, k _ H1 _ _ _ F s1 walk_tup ra.length (line_eq (by rw [ra.length]; exact hl)) t1 f1 (fun H2 st => st.tupS ha) fun i H2 y H3 hi st hy => ?_⟩
    obtain ⟨rfl, hy⟩ := hy
    obtain ⟨d, hd, rd⟩ := ra.get' hy
    exact ⟨Same.refl _, d, hd, rd.go st fun _ h => h⟩

/-- whole numbers from i, n of them, by steps of c -/
def upTo (i c : Int) : Nat → List D
  | 0 => []
  | n + 1 => .int i :: upTo (i + c) c n
theorem upTo_length (c : Int) : ∀ (n : Nat) (i : Int), (upTo i c n).length = n
  | 0, _ => rfl
  | n + 1, i => by rw [upTo, List.length_cons, upTo_length c n]
theorem upTo_get (c : Int) : ∀ (n k : Nat) (i : Int), k < n → (upTo i c n)[k]? = some (.int (i + (k : Nat) * c))
  | 0, _, _, h => absurd h (Nat.not_lt_zero _)
  | n + 1, 0, i, _ => by rw [upTo]; simp
  | n + 1, k + 1, i, h => by
    rw [upTo, List.getElem?_cons_succ, upTo_get c n k (i + c) (Nat.lt_of_succ_lt_succ h)]
    have e : i + c + (k : Int) * c = i + ((k + 1 : Nat) : Int) * c := by
      rw [show ((k + 1 : Nat) : Int) = (k : Int) + 1 from by omega, Int.add_mul]
      omega
    rw [e]
def rngOk (j : Int) : Bool := decide (-16777216 ≤ j) && decide (j ≤ 16777216)
theorem rng_of {j : Int} (h : rngOk j = true) : -16777216 ≤ j ∧ j ≤ 16777216 := by
  unfold rngOk at h
  rwa [Bool.and_eq_true, decide_eq_true_eq, decide_eq_true_eq] at h
def iRange1 (g : VA) : VI := fun env => match g env with
  | some [x] => match x.d with
    | .int j => if rngOk j then some (upTo 0 1 j.toNat, []) else none
    | _ => none
  | _ => none
theorem vals_one {K : PySem.W.Frag} {Hs H : Hp} {Fs : Nat → ASet} {vs : List V} {x : Rv} (w : ValsOk K Cl Hs H Fs vs [x]) : ∃ v, vs = [v] ∧ ValOk K Cl Hs H Fs v x := by
  cases vs with
  | nil => exact w.elim
  | cons v vs =>
    obtain ⟨H1, s1, s2, w1, w⟩ := w
    cases vs with
    | cons _ _ => exact w.elim
    | nil => exact ⟨v, rfl, w1.same s2⟩
theorem vals_two {K : PySem.W.Frag} {Hs H : Hp} {Fs : Nat → ASet} {vs : List V} {x y : Rv} (w : ValsOk K Cl Hs H Fs vs [x, y]) : ∃ v u H1, vs = [v, u] ∧ Same Hs H1 ∧ Same H1 H ∧ ValOk K Cl Hs H Fs v x ∧ ValOk K Cl H1 H Fs u y := by
  cases vs with
  | nil => exact w.elim
  | cons v vs =>
    obtain ⟨H1, s1, s2, w1, w⟩ := w
    obtain ⟨u, rfl, w2⟩ := vals_one w
    exact ⟨v, u, H1, rfl, s1, s2, w1.same s2, w2⟩
theorem vi_range1 {tg a : Expr} {p pos : Pos} {g : VA} (hm : X.mg "range" = none) (ha : VAok X Cl [a] g) (hg : Gl X "range" := by rfl) (hs : starEach [a] X.env = [(false, eval a X.env)] := by rfl) : VIok X Cl tg (.Call (.Name "range" p) [a] [] pos) (iRange1 g) := by
  obtain ⟨t, p, q⟩ := ha
  refine ⟨_, pi_range1 hg hm p hs, fun H0 G σ H env Fs ow ds al R S e k => ?_⟩
  unfold iRange1 at e
  split at e <;> (first | (cases e; done) | skip)
  rename_i x ex
  split at e <;> (first | (cases e; done) | skip)
  rename_i j ed
  split at e <;> (first | (cases e; done) | skip)
  rename_i hl
  cases e
  refine q _ _ _ _ _ _ _ _ _ S ex fun vs H1 s1 w1 => ?_
  obtain ⟨v, rfl, w2⟩ := vals_one w1
  have ev := val_int w2 ed
  subst ev
  have hr := rng_of hl
  refine ⟨j, rfl, by omega, by omega, k _ H1 _ _ _ (fun _ => False) s1 walk_range (upTo_length _ _ _).symm (line_eq (by omega)) (fun _ f => f.elim) (fun _ f => f.elim) (fun _ _ => trivial) fun i H2 y H3 hi st hy => ?_⟩
  obtain ⟨rfl, rfl⟩ := hy
  refine ⟨Same.refl _, _, upTo_get 1 _ i 0 hi, ?_⟩
  rw [Int.mul_one]
  exact .int _
def iRange2 (g : VA) : VI := fun env => match g env with
  | some [x, y] => match x.d, y.d with
    | .int i, .int j => if (rngOk i && rngOk j) && decide (j - i ≤ 16777216) then some (upTo i 1 (j - i).toNat, []) else none
    | _, _ => none
  | _ => none
theorem vi_range2 {tg a b : Expr} {p pos : Pos} {g : VA} (hm : X.mg "range" = none) (ha : VAok X Cl [a, b] g) (hg : Gl X "range" := by rfl) (hs : starEach [a, b] X.env = [(false, eval a X.env), (false, eval b X.env)] := by rfl) (hs2 : starEach [b] X.env = [(false, eval b X.env)] := by rfl) : VIok X Cl tg (.Call (.Name "range" p) [a, b] [] pos) (iRange2 g) := by
  obtain ⟨t, p, q⟩ := ha
  refine ⟨_, pi_range2 hg hm p hs hs2, fun H0 G σ H env Fs ow ds al R S e k => ?_⟩
  unfold iRange2 at e
  split at e <;> (first | (cases e; done) | skip)
  rename_i x y ex
  split at e <;> (first | (cases e; done) | skip)
  rename_i i j ed1 ed2
  split at e <;> (first | (cases e; done) | skip)
  rename_i hl
  cases e
  rw [Bool.and_eq_true, Bool.and_eq_true, decide_eq_true_eq] at hl
  have hi := rng_of hl.1.1
  have hj := rng_of hl.1.2
  refine q _ _ _ _ _ _ _ _ _ S ex fun vs H1 s1 w1 => ?_
  obtain ⟨v, u, H2, rfl, _, _, w2, w3⟩ := vals_two w1
  have ev := val_int w2 ed1
  subst ev
  have eu := val_int w3 ed2
  subst eu
  refine ⟨i, j, rfl, ⟨by omega, by omega, by omega, by omega⟩, ?_⟩
  have hbig : (j - i).toNat ≤ sizeLine := line_eq (by omega)
  refine k _ H1 _ _ _ (fun _ => False) s1 walk_range (upTo_length _ _ _).symm hbig (fun _ f => f.elim) (fun _ f => f.elim) (fun _ _ => trivial) fun m H2 y H3 hi st hy => ?_
  obtain ⟨rfl, rfl⟩ := hy
  refine ⟨Same.refl _, _, upTo_get 1 _ m i hi, ?_⟩
  rw [Int.mul_one]
  exact .int _
def iRange3 (g : VA) : VI := fun env => match g env with
  | some [x, y, z] => match x.d, y.d, z.d with
    | .int i, .int j, .int (-1) => if (rngOk i && rngOk j) && decide (i - j ≤ 16777216) then some (upTo i (-1) (i - j).toNat, []) else none
    | _, _, _ => none
  | _ => none
theorem vals_three {K : PySem.W.Frag} {Hs H : Hp} {Fs : Nat → ASet} {vs : List V} {x y z : Rv} (w : ValsOk K Cl Hs H Fs vs [x, y, z]) : ∃ v u t H1 H2, vs = [v, u, t] ∧ ValOk K Cl Hs H Fs v x ∧ ValOk K Cl H1 H Fs u y ∧ ValOk K Cl H2 H Fs t z := by
  cases vs with
  | nil => exact w.elim
  | cons v vs =>
    obtain ⟨H1, s1, s2, w1, w⟩ := w
    obtain ⟨u, t, H2, rfl, _, _, w2, w3⟩ := vals_two w
    exact ⟨v, u, t, H1, H2, rfl, w1.same s2, w2, w3⟩
theorem vi_range3 {tg a b c : Expr} {p pos : Pos} {g : VA} (hm : X.mg "range" = none) (ha : VAok X Cl [a, b, c] g) (hg : Gl X "range" := by rfl) (hs : starEach [a, b, c] X.env = (false, eval a X.env) :: starEach [b, c] X.env := by rfl) (hpl : (backTo pos (starEach [b, c] X.env)).any (·.1) = false := by rfl) : VIok X Cl tg (.Call (.Name "range" p) [a, b, c] [] pos) (iRange3 g) := by
  obtain ⟨t, p, q⟩ := ha
  refine ⟨_, pi_range3 hg hm p hs hpl, fun H0 G σ H env Fs ow ds al R S e k => ?_⟩
  unfold iRange3 at e
  split at e <;> (first | (cases e; done) | skip)
  rename_i x y z ex
  split at e <;> (first | (cases e; done) | skip)
  rename_i i j ed1 ed2 ed3
  split at e <;> (first | (cases e; done) | skip)
  rename_i hl
  cases e
  rw [Bool.and_eq_true, Bool.and_eq_true, decide_eq_true_eq] at hl
  have hi := rng_of hl.1.1
  have hj := rng_of hl.1.2
  refine q _ _ _ _ _ _ _ _ _ S ex fun vs H1 s1 w1 => ?_
  obtain ⟨v, u, t, H2, H3, rfl, w2, w3, w4⟩ := vals_three w1
  have ev := val_int w2 ed1
  subst ev
  have eu := val_int w3 ed2
  subst eu
  have et := val_int w4 ed3
  subst et
  refine ⟨i, j, -1, (i - j).toNat, rfl, .neg (by omega) (by omega) (by omega) (by omega), ?_⟩
  refine k _ H1 _ _ _ (fun _ => False) s1 walk_rangeC (upTo_length _ _ _).symm (line_eq (by omega)) (fun _ f => f.elim) (fun _ f => f.elim) (fun _ _ => trivial) fun m H2 y H3 hi st hy => ?_
  obtain ⟨rfl, rfl⟩ := hy
  exact ⟨Same.refl _, _, upTo_get (-1) _ m i hi, .int _⟩

/-- pairs (0, a), (1, b) .. -/
def numD : Int → List D → List D
  | _, [] => []
  | i, d :: ds => .tup [.int i, d] :: numD (i + 1) ds
theorem numD_length : ∀ (i : Int) (ds : List D), (numD i ds).length = ds.length
  | _, [] => rfl
  | i, d :: ds => by rw [numD, List.length_cons, List.length_cons, numD_length]
theorem numD_get : ∀ (i : Int) (ds : List D) (k : Nat) (d : D), ds[k]? = some d → (numD i ds)[k]? = some (.tup [.int (i + (k : Nat)), d])
  | _, [], _, _, h => by simp at h
  | i, d :: ds, 0, d', h => by
    rw [List.getElem?_cons_zero] at h
    cases h
    rw [numD, List.getElem?_cons_zero]
    simp
  | i, d :: ds, k + 1, d', h => by
    rw [List.getElem?_cons_succ] at h
    rw [numD, List.getElem?_cons_succ, numD_get (i + 1) ds k d' h]
    have e : i + 1 + (k : Int) = i + ((k + 1 : Nat) : Int) := by omega
    rw [e]
def iEnumD (g : VA) : VI := fun env => match g env with
  | some [x] => match itemsD x with
    | some (ds, al) => some (numD 0 ds, al)
    | none => none
  | _ => none
/-- a new pair at each turn -/
theorem pair_turn {K : PySem.W.Frag} {H2 H3 : Hp} {F : ASet} {xs ys : Nat → Option V} {i : Nat} {x : V} {d1 d2 : D} (hy : YPair xs ys i H2 x H3) (h1 : ∀ v, xs i = some v → Rep K Cl H2 F v d1) (h2 : ∀ v, ys i = some v → Rep K Cl H2 F v d2) : Same H2 H3 ∧ Rep K Cl H3 F x (.tup [d1, d2]) := by
  obtain ⟨T, a, b, rfl, hT, rfl, ha, hb⟩ := hy
  have s := same_upd (o := .tup [a, b]) hT
  exact ⟨s, .tup (SqT.of upd_same) (.cons ((h1 a ha).same s) (.cons ((h2 b hb).same s) .nil))⟩
theorem vi_enum {e : Expr} {elts : List Expr} {kk : Nat} {tpos p pos : Pos} {g : VA} (hm : X.mg "enumerate" = none) (ha : VAok X Cl [e] g) (hg : Gl X "enumerate" := by rfl) (hs : starEach [e] X.env = [(false, eval e X.env)] := by rfl) : VIok X Cl (.Tuple elts kk tpos) (.Call (.Name "enumerate" p) [e] [] pos) (iEnumD g) := by
  obtain ⟨t, p, q⟩ := ha
  refine ⟨_, pi_or (pi_enum hg hm p hs) (pi_enumT hg hm p hs), fun H0 G σ H env Fs ow ds al R S e k => ?_⟩
  unfold iEnumD at e
  split at e <;> (first | (cases e; done) | skip)
  rename_i x ex
  split at e <;> (first | (cases e; done) | skip)
  rename_i ds' al' ei
  cases e
  unfold itemsD at ei
  split at ei <;> (first | (cases ei; done) | skip)
  · rename_i ds2 ed
    split at ei <;> (first | (cases ei; done) | skip)
    rename_i hl
    cases ei
    left
    refine q _ _ _ _ _ _ _ _ _ S ex fun vs H1 s1 w1 => ?_
    obtain ⟨v, rfl, w2⟩ := vals_one w1
    obtain ⟨F, _, r1, t1, f1, _⟩ := w2
    rw [ed] at r1
    obtain ⟨a, xs, rfl, ha, fa, ra⟩ := r1.lst_of
    refine ⟨a, xs, rfl, SqL.of ha, k _ H1 _ _ _ F s1 walk_enum (by rw [numD_length]; exact ra.length) (line_eq (by rw [ra.length]; exact hl)) t1 f1 (fun H2 st => SqL.of (st.at_ _ _ fa ha)) fun i H2 y H3 hi st hy => ?_⟩
    obtain ⟨d, hd, rd⟩ := ra.get' (List.getElem?_eq_getElem hi)
    obtain ⟨s2, rr⟩ := pair_turn (Cl := Cl) (K := X.K) (F := F) (d1 := .int (i : Nat)) (d2 := d) hy (fun v e => by cases e; exact .int _) (fun v e => by rw [List.getElem?_eq_getElem hi] at e; cases e; exact rd.go st fun _ h => h)
    refine ⟨s2, _, numD_get 0 _ i d hd, ?_⟩
    rw [Int.zero_add]
    exact rr
  · rename_i ds2 ed
    split at ei <;> (first | (cases ei; done) | skip)
    rename_i hl
    cases ei
    right
    refine q _ _ _ _ _ _ _ _ _ S ex fun vs H1 s1 w1 => ?_
    obtain ⟨v, rfl, w2⟩ := vals_one w1
    obtain ⟨F, _, r1, t1, f1, _⟩ := w2
    rw [ed] at r1
    obtain ⟨a, xs, rfl, ha, ra⟩ := r1.tup_of
    refine ⟨a, xs, rfl, ha, k _ H1 _ _ _ F s1 walk_enumT (by rw [numD_length]; exact ra.length) (line_eq (by rw [ra.length]; exact hl)) t1 f1 (fun H2 st => st.tupS ha) fun i H2 y H3 hi st hy => ?_⟩
    obtain ⟨d, hd, rd⟩ := ra.get' (List.getElem?_eq_getElem hi)
    obtain ⟨s2, rr⟩ := pair_turn (Cl := Cl) (K := X.K) (F := F) (d1 := .int (i : Nat)) (d2 := d) hy (fun v e => by cases e; exact .int _) (fun v e => by rw [List.getElem?_eq_getElem hi] at e; cases e; exact rd.go st fun _ h => h)
    refine ⟨s2, _, numD_get 0 _ i d hd, ?_⟩
    rw [Int.zero_add]
    exact rr
end
end VL

namespace VL
open PySem PySem.Spec L2

/-! ### one reading for each meaning (it does not depend on the context) -/
def cE (K : PySem.W.Frag) (Cl : ClsT) (f : VE) : TE := fun σ H Q => ∃ (H0 : Hp) (G : ASet) (env : Ev) (Fs : Nat → ASet) (ow : Nat → List Addr) (r : Rv), StOk K Cl H0 G σ H env Fs ow ∧ f env = some r ∧ ∀ v H', Same H H' → ValOk K Cl H H' Fs v r → Q v H'
theorem VEok.canon {X : Cx} {Cl : ClsT} {e : Expr} {f : VE} (h : VEok X Cl e f) : PE X e (cE X.K Cl f) := by
  obtain ⟨t, p, q⟩ := h
  exact ⟨fun pins s σ H Q I ⟨H0, G, env, Fs, ow, r, S, er, k⟩ => p.run pins s σ H Q I (q _ _ _ _ _ _ _ _ _ S er k)⟩
def cT (K : PySem.W.Frag) (Cl : ClsT) (f : VT) : TT := fun σ H Q => ∃ (H0 : Hp) (G : ASet) (env : Ev) (Fs : Nat → ASet) (ow : Nat → List Addr) (b : Bool), StOk K Cl H0 G σ H env Fs ow ∧ f env = some b ∧ ∀ H', Same H H' → Q b H'
def VTsok (X : Cx) (Cl : ClsT) (ifs : List Expr) (f : VT) : Prop := PTs X ifs (cT X.K Cl f)
theorem VTok.canon {X : Cx} {Cl : ClsT} {e : Expr} {f : VT} (h : VTok X Cl e f) : PT X e (cT X.K Cl f) := by
  obtain ⟨t, p, q⟩ := h
  exact ⟨fun pins s σ H Q I ⟨H0, G, env, Fs, ow, r, S, er, k⟩ => p.run pins s σ H Q I (q _ _ _ _ _ _ _ _ _ S er k)⟩
theorem vts_nil {X : Cx} {Cl : ClsT} : VTsok X Cl [] (fun _ => some true) :=
  ⟨fun pins s σ H Q I ⟨H0, G, env, Fs, ow, r, S, er, k⟩ => by cases er; exact pts_nil.run pins s σ H Q I (k H (Same.refl _))⟩
theorem vts_one {X : Cx} {Cl : ClsT} {c : Expr} {f : VT} (h : VTok X Cl c f) : VTsok X Cl [c] f := pts_one h.canon
def cG (K : PySem.W.Frag) (Cl : ClsT) (T : List Nat) (g : VG) : TG := fun v σ H Q => ∃ (H0 : Hp) (G : ASet) (env env' : Ev) (Fs : Nat → ASet) (ow : Nat → List Addr) (F : ASet) (d : D), StOk K Cl H0 G σ H env Fs ow ∧ Sep K Cl H0 H G ow F v d ∧ g d env = some env' ∧
  ∀ σ' Fs' ow', StOk K Cl H0 G σ' H env' Fs' ow' → (∀ a, Ow ow' a → Ow ow a) → (∀ j a, Fs' j a → Fs j a ∨ F a) → OnlyT T σ σ' → Q σ' H
theorem VGok.canon {X : Cx} {Cl : ClsT} {T : List Nat} {tg : Expr} {g : VG} (h : VGok X Cl T tg g) : PG X tg (cG X.K Cl T g) := by
  obtain ⟨t, p, q⟩ := h
  exact ⟨fun pins s σ H v u Q I r ⟨H0, G, env, env', Fs, ow, F, d, S, w, e, k⟩ => p.run pins s σ H v u Q I r (q _ _ _ _ _ _ _ _ _ _ _ _ S w e k)⟩

/-! ### a list comprehension -/
def wipeE (e : Ev) : List Nat → Ev
  | [] => e
  | v :: vs => (wipeE e vs).set v none
def compV (g : VG) (tt : VT) (fe : VE) (e0 : Ev) : List D → Option (List Rv)
  | [] => some []
  | d :: ds => match g d e0 with
    | some e1 => match tt e1 with
      | some true => match fe e1 with
        | some r => match compV g tt fe e0 ds with
          | some rs => some (r :: rs)
          | none => none
        | none => none
      | some false => compV g tt fe e0 ds
      | none => none
    | none => none
def compRv (n : Nat) (rs : List Rv) : Rv := if rs.all gridChild then ⟨.lst (dsOf rs), 2, []⟩ else ⟨.lst (dsOf rs), 1, List.range n⟩
def vComp (it : VI) (vs : List Nat) (g : VG) (tt : VT) (fe : VE) : VE := fun env => match it env with
  | some (ds, al) => match compV g tt fe (frz al (wipeE env vs)) ds with
    | some rs => some (compRv env.length rs)
    | none => none
  | none => none
def hide (p : Addr) (H : Hp) : Hp := fun b => if b = p then none else H b
theorem hide_same {p : Addr} {H : Hp} : hide p H p = none := if_pos rfl
theorem hide_ne {p b : Addr} {H : Hp} (h : b ≠ p) : hide p H b = H b := if_neg h
theorem hide_upd {p : Addr} {H : Hp} {o : HO} : hide p (upd H p o) = hide p H := by
  funext b
  unfold hide
  by_cases h : b = p
  · rw [if_pos h, if_pos h]
  · rw [if_neg h, if_neg h, upd_ne h]
theorem upd_hide {p : Addr} {H : Hp} {o : HO} (h : H p = some o) : upd (hide p H) p o = H := by
  funext b
  by_cases e : b = p
  · subst e; rw [upd_same, h]
  · rw [upd_ne e, hide_ne e]
theorem Same.hide {p : Addr} {H H' : Hp} (s : Same H H') : Same (hide p H) (hide p H') := fun b o e => by
  by_cases h : b = p
  · subst h; rw [hide_same] at e; cases e
  · rw [hide_ne h] at e ⊢; exact s b o e
section
variable {K : PySem.W.Frag} {Cl : ClsT}
theorem ValsOk.snoc {Fs : Nat → ASet} {v : V} {r : Rv} {H H1 : Hp} (s : Same H H1) (w : ValOk K Cl H H1 Fs v r) : ∀ {vs : List V} {rs : List Rv} {Hs : Hp}, Same Hs H → ValsOk K Cl Hs H Fs vs rs → ValsOk K Cl Hs H1 Fs (vs ++ [v]) (rs ++ [r])
  | [], [], Hs, sh, _ => ⟨H1, sh.trans s, Same.refl _, w.from sh, trivial⟩
  | x :: vs, y :: rs, Hs, sh, ⟨H2, s1, s2, w1, h⟩ => ⟨H2, s1, s2.trans s, w1, ValsOk.snoc s w s2 h⟩
  | [], _ :: _, _, _, h => h.elim
  | _ :: _, [], _, _, h => h.elim
/-- a value by other slots' places: what it leans on told anew -/
theorem ValOk.via {Hs H : Hp} {Fs Fs' : Nat → ASet} {v : V} {r : Rv} {al : List Nat} (w : ValOk K Cl Hs H Fs v r) (h : ∀ j ∈ r.al, ∀ a, Fs j a → Hs a = none ∨ ∃ k ∈ al, Fs' k a) : ValOk K Cl Hs H Fs' v ⟨r.d, r.l, al⟩ := by
  obtain ⟨F, wo, h1, h2, h3, h4, h5⟩ := w
  refine ⟨F, wo, h1, h2, fun a f => ?_, h4, h5⟩
  rcases h3 a f with q | ⟨j, hj, q⟩
  · exact .inl q
  · exact h j hj a q
/-- seen without the list at p -/
theorem ValOk.hidden {Hs H : Hp} {Fs : Nat → ASet} {v : V} {r : Rv} {p : Addr} {xs : List V} (w : ValOk K Cl Hs H Fs v r) (hs : ∃ o, Hs p = some o) (hp : H p = some (.lst xs)) (n : ∀ j ∈ r.al, ¬ Fs j p) : ValOk K Cl (hide p Hs) (hide p H) Fs v r := by
  obtain ⟨F, wo, h1, h2, h3, h4, h5⟩ := w
  have nF : ∀ a, F a → a ≠ p := fun a f z => by
    subst z
    obtain ⟨o, ho⟩ := hs
    rcases h3 a f with q | ⟨j, hj, q⟩
    · rw [q] at ho; cases ho
    · exact n j hj q
  have st : Stay F H (hide p H) := ⟨fun a o f e => by rw [hide_ne (nF a f)]; exact e, fun a xs' e => by rw [hide_ne (fun z => by subst z; rw [hp] at e; cases e)]; exact e, fun a o u e => by rw [hide_ne (fun z => by subst z; rw [hp] at e; cases e)]; exact e, fun a xs e => by rw [hide_ne (fun z => by subst z; rw [hp] at e; cases e)]; exact e⟩
  refine ⟨F, wo, h1.go st fun _ h => h, fun a f => by rw [hide_ne (nF a f)]; exact h2 a f, fun a f => ?_, h4.go st fun _ h => h, fun a ha => ?_⟩
  · rcases h3 a f with q | q
    · rw [hide_ne (nF a f)]; exact .inl q
    · exact .inr q
  · have f := h4.sub a ha
    rw [hide_ne (nF a f)]; exact h5 a ha
end
theorem wipeE_length : ∀ (e : Ev) (vs : List Nat), (wipeE e vs).length = e.length
  | _, [] => rfl
  | e, v :: vs => by rw [wipeE, List.length_set, wipeE_length e vs]
theorem wipeE_get {e : Ev} {i : Nat} {x : Nat × D} : ∀ {vs : List Nat}, (wipeE e vs)[i]? = some (some x) → e[i]? = some (some x) ∧ i ∉ vs
  | [], h => ⟨h, by simp⟩
  | v :: vs, h => by
    rw [wipeE] at h
    by_cases hi : v = i
    · subst hi
      by_cases hv : v < (wipeE e vs).length
      · rw [List.getElem?_set_self hv] at h; cases h
      · rw [List.getElem?_eq_none (by simpa using hv)] at h; cases h
    · rw [List.getElem?_set_ne hi] at h
      obtain ⟨h1, h2⟩ := wipeE_get h
      exact ⟨h1, by simp only [List.mem_cons, not_or]; exact ⟨fun e => hi e.symm, h2⟩⟩
theorem wipe_not {σ : L2.St} {i : Nat} : ∀ {vs : List Nat}, i ∉ vs → (wipe σ vs)[i]? = σ[i]?
  | [], _ => rfl
  | v :: vs, h => by
    simp only [List.mem_cons, not_or] at h
    rw [wipe, List.getElem?_set_ne (fun z => h.1 z.symm), wipe_not h.2]
theorem wipe_in {σ : L2.St} {i : Nat} : ∀ {us : List Nat}, i ∈ us → (wipe σ us)[i]? = if i < σ.length then some none else none
  | [], h => by cases h
  | v :: us, h => by
    rw [wipe]
    by_cases e : v = i
    · subst e
      by_cases hl : v < σ.length
      · rw [if_pos hl, List.getElem?_set_self (by rw [wipe_length]; exact hl)]
      · rw [if_neg hl, List.getElem?_eq_none (by rw [List.length_set, wipe_length]; omega)]
    · rw [List.getElem?_set_ne e]
      exact wipe_in ((List.mem_cons.mp h).resolve_left fun z => e z.symm)
theorem wipe_only {σ σ' : L2.St} {T vs : List Nat} (o : OnlyT T σ σ') (sub : ∀ j ∈ T, j ∈ vs) : wipe σ' vs = wipe σ vs := by
  apply List.ext_getElem?
  intro i
  by_cases h : i ∈ vs
  · rw [wipe_in h, wipe_in h, o.1]
  · rw [wipe_not h, wipe_not h]
    exact o.2 i fun z => h (sub i z)
theorem wipe_wipe {σ : L2.St} {vs : List Nat} : wipe (wipe σ vs) vs = wipe σ vs := by
  apply List.ext_getElem?
  intro i
  by_cases h : i ∈ vs
  · rw [wipe_in h, wipe_in h, wipe_length]
  · rw [wipe_not h]
/-- the slots that are wiped -/
theorem StOk.wiped {K : PySem.W.Frag} {Cl : ClsT} {H0 H : Hp} {G : ASet} {σ : L2.St} {env : Ev} {Fs : Nat → ASet} {ow : Nat → List Addr} (S : StOk K Cl H0 G σ H env Fs ow) (vs : List Nat) : StOk K Cl H0 G (wipe σ vs) H (wipeE env vs) Fs ow := by
  refine ⟨S.same, by rw [wipeE_length, wipe_length]; exact S.len, fun i fl d e => ?_, S.trk, S.base, S.own, S.kind, fun i a f => by rw [wipeE_length]; exact S.fin i a f⟩
  obtain ⟨h1, h2⟩ := wipeE_get e
  obtain ⟨v, q1, q2⟩ := S.val i fl d h1
  exact ⟨v, by rw [wipe_not h2]; exact q1, q2⟩
def adj (n : Nat) (r : Rv) : Rv := ⟨r.d, r.l, List.range (n + 1)⟩
theorem adj_ds (n : Nat) (rs : List Rv) : dsOf (rs.map (adj n)) = dsOf rs := by unfold dsOf; rw [List.map_map]; rfl
theorem adj_grid (n : Nat) : ∀ rs : List Rv, (rs.map (adj n)).all gridChild = rs.all gridChild
  | [] => rfl
  | r :: rs => by rw [List.map_cons, List.all_cons, List.all_cons, adj_grid n rs]; rfl

section
variable {X : Cx} {Cl : ClsT}
theorem comp_ok {wi : TI} {T vs : List Nat} {g : VG} {tt : VT} {fe : VE} {f : VI} (hT : ∀ j ∈ T, j ∈ vs)
    (qi : ∀ (H0 : Hp) (G : ASet) (σ : L2.St) (H : Hp) (env : Ev) (Fs : Nat → ASet) (ow : Nat → List Addr) (ds : List D) (al : List Nat) (R : It → Hp → Prop), StOk X.K Cl H0 G σ H env Fs ow → f env = some (ds, al) →
      (∀ (J : It) (H' : Hp) (n : Nat) (GG : Hp → Prop) (Y : Nat → Hp → V → Hp → Prop) (F : ASet), Same H H' → Walk J n GG Y → n = ds.length → n ≤ sizeLine → (∀ a, F a → H' a ≠ none) → (∀ a, F a → H a = none ∨ ∃ j ∈ al, Fs j a) → (∀ H2, Stay F H' H2 → GG H2) →
        (∀ i H2 x H3, i < n → Stay F H' H2 → Y i H2 x H3 → Same H2 H3 ∧ ∃ d, ds[i]? = some d ∧ Rep X.K Cl H3 F x d) → R J H') → wi σ H R)
    {H0 : Hp} {G : ASet} {σ : L2.St} {H : Hp} {env : Ev} {Fs : Nat → ASet} {ow : Nat → List Addr} {r : Rv} {Q : VK} (S : StOk X.K Cl H0 G σ H env Fs ow) (e : vComp f vs g tt fe env = some r)
    (k : ∀ v H', Same H H' → ValOk X.K Cl H H' Fs v r → Q v H') : tLc wi (cG X.K Cl T g) (cT X.K Cl tt) (cE X.K Cl fe) vs σ H Q := by
  unfold vComp at e
  split at e <;> (first | (cases e; done) | skip)
  rename_i ds al ef
  split at e <;> (first | (cases e; done) | skip)
  rename_i rs ers
  cases e
  refine qi _ _ _ _ _ _ _ _ _ _ S ef fun J H1 n GG Y F s1 wk hn hz ht hf hG hY => fun p hp => ?_
  have inner : ∀ {H2 : Hp}, Same H H2 → StOk X.K Cl H0 G (wipe σ vs) H2 (frz al (wipeE env vs)) Fs (noOws al ow) := fun s => ((S.wiped vs).frz (al := al)).go s
  have nF : ∀ a, F a → ¬ Ow (noOws al ow) a := fun a fa ⟨j, hj⟩ => by
    have hj' := noOws_sub (al := al) j a hj
    obtain ⟨q1, q2, q3⟩ := S.own j a hj'
    rcases hf a fa with h | ⟨m, hm, h⟩
    · exact S.trk j a q1 h
    · by_cases e : m = j
      · subst e; exact noOws_not hj hm
      · exact q3 m e h
  have bF : ∀ a, F a → H0 a = none ∨ G a := fun a fa => by
    rcases hf a fa with h | ⟨m, _, h⟩
    · exact .inl (S.same.free h)
    · exact S.base m a h
  have fpF : ¬ F p := fun f => ht p f hp
  have fpS : ∀ j, ¬ Fs j p := fun j f => S.trk j p f (s1.free hp)
  refine lc_it wk (fun i H2 => Same H1 H2 ∧ ∃ acc done rest, H2 p = some (.lst acc) ∧ Same H1 (hide p H2) ∧ ValsOk X.K Cl H (hide p H2) (fun j a => Fs j a ∨ F a) acc (done.map (adj env.length)) ∧ acc.length ≤ i ∧ compV g tt fe (frz al (wipeE env vs)) (ds.drop i) = some rest ∧ done ++ rest = rs) ?_ (fun i H2 _ ⟨s2, _⟩ => hG H2 (.of_same s2)) ?_ ?_
  · refine ⟨same_upd hp, [], [], rs, upd_same, fun b o eb => ?_, trivial, Nat.zero_le _, ers, rfl⟩
    rw [hide_ne (ne_of_none eb hp), upd_ne (ne_of_none eb hp)]; exact eb
  · rintro i x H2 H3 hin ⟨s2, acc, done, rest, hpl, sh, vok, hacc, erest, eds⟩ hy
    obtain ⟨s3, d, hd, rd⟩ := hY i H2 x H3 hin (.of_same s2) hy
    have hi' : i < ds.length := by omega
    have hdrop : ds.drop i = d :: ds.drop (i + 1) := by
      rw [List.drop_eq_getElem_cons hi']
      congr
      rw [List.getElem?_eq_getElem hi'] at hd
      exact Option.some.inj hd
    rw [hdrop, compV] at erest
    split at erest <;> (first | (cases erest; done) | skip)
    rename_i e1 eg
    have s13 : Same H1 H3 := s2.trans s3
    have tr3 : ∀ a, F a → H3 a ≠ none := fun a fa z => ht a fa (s13.free z)
    refine ⟨H0, G, frz al (wipeE env vs), e1, Fs, noOws al ow, F, d, inner (s1.trans s13), ⟨rd, tr3, bF, nF⟩, eg, fun σ2 Fs2 ow2 S2 m2 l2 o2 => ⟨?_, ?_⟩⟩
    · rw [wipe_only o2 hT, wipe_wipe]
    have fp2 : ∀ j, ¬ Fs2 j p := fun j f => (l2 j p f).elim (fpS j) fpF
    split at erest <;> (first | (cases erest; done) | skip)
    · rename_i et
      split at erest <;> (first | (cases erest; done) | skip)
      rename_i r er
      split at erest <;> (first | (cases erest; done) | skip)
      rename_i rest2 erest2
      cases erest
      refine ⟨H0, G, e1, Fs2, ow2, true, S2, et, fun H4 s4 => iteT ?_⟩
      refine ⟨H0, G, e1, Fs2, ow2, r, S2.go s4, er, fun v H5 s5 w5 => ?_⟩
      have s25 : Same H2 H5 := (s3.trans s4).trans s5
      have h4p : H4 p = some (.lst acc) := (s3.trans s4) p _ hpl
      have h5p : H5 p = some (.lst acc) := s5 p _ h4p
      have w6 : ValOk X.K Cl (hide p H2) (hide p H5) (fun j a => Fs j a ∨ F a) v (adj env.length r) := by
        have w7 := w5.hidden (p := p) ⟨_, h4p⟩ h5p fun j _ => fp2 j
        have w8 := w7.from (Same.hide (p := p) (s3.trans s4))
        refine w8.via fun j hj a f => ?_
        rcases l2 j a f with f | f
        · exact .inr ⟨j, List.mem_range.mpr (Nat.lt_succ_of_lt (S.fin j a f)), .inl f⟩
        · exact .inr ⟨0, List.mem_range.mpr (Nat.succ_pos _), .inr f⟩
      have sh2 : Same (hide p H2) (hide p H5) := Same.hide s25
      refine ⟨acc, h5p, Nat.lt_of_lt_of_le (Nat.lt_of_le_of_lt hacc hin) hz, fun b o eb => ?_, acc ++ [v], done ++ [r], rest2, upd_same, by rw [hide_upd]; exact sh.trans sh2, ?_, ?_, erest2, ?_⟩
      · have hb : b ≠ p := fun z => by subst z; rw [hp] at eb; cases eb
        rw [upd_ne hb]; exact (s2.trans s25) b o eb
      · rw [hide_upd, List.map_append]
        exact ValsOk.snoc sh2 w6 (s1.trans sh) vok
      · rw [List.length_append, List.length_singleton]; omega
      · rw [List.append_assoc]; exact eds
    · rename_i et
      refine ⟨H0, G, e1, Fs2, ow2, false, S2, et, fun H4 s4 => iteF ?_⟩
      have s24 : Same H2 H4 := s3.trans s4
      have sh2 : Same (hide p H2) (hide p H4) := Same.hide s24
      have up : ∀ {vs : List V} {rs : List Rv} {Hs : Hp}, ValsOk X.K Cl Hs (hide p H2) (fun j a => Fs j a ∨ F a) vs rs → ValsOk X.K Cl Hs (hide p H4) (fun j a => Fs j a ∨ F a) vs rs := fun {vs} => by
        induction vs with
        | nil => intro rs Hs h; cases rs with
          | nil => trivial
          | cons _ _ => exact h.elim
        | cons v vs ih =>
          intro rs Hs h
          cases rs with
          | nil => exact h.elim
          | cons r rs =>
            obtain ⟨Hm, q1, q2, q3, q4⟩ := h
            exact ⟨Hm, q1, q2.trans sh2, q3, ih q4⟩
      exact ⟨s2.trans s24, acc, done, rest, s24 p _ hpl, sh.trans sh2, up vok, Nat.le_succ_of_le hacc, erest, eds⟩
  · rintro H2 ⟨s2, acc, done, rest, hpl, sh, vok, hacc, erest, eds⟩
    rw [hn, List.drop_length, compV] at erest
    cases erest
    rw [List.append_nil] at eds
    subst eds
    have q := lst_made (p := p) (s1.trans sh) vok hide_same
    rw [upd_hide hpl] at q
    refine k _ _ (s1.trans s2) ?_
    have q2 : ∀ (al' : List Nat), (∀ j a, Fs j a ∨ F a → H a = none ∨ ∃ m ∈ al', Fs m a) → ∀ rr : Rv, ValOk X.K Cl H H2 (fun j a => Fs j a ∨ F a) (.ref p) rr → ValOk X.K Cl H H2 Fs (.ref p) ⟨rr.d, rr.l, al'⟩ := fun al' h rr w => w.via fun j _ a f => h j a f
    unfold lstRv at q
    unfold compRv
    rw [adj_grid, adj_ds] at q
    by_cases g : done.all gridChild = true
    · rw [if_pos g] at q ⊢
      exact q.via fun j hj => by cases hj
    · rw [if_neg g] at q ⊢
      refine q.via fun j _ a f => ?_
      rcases f with f | f
      · exact .inr ⟨j, List.mem_range.mpr (S.fin j a f), f⟩
      · rcases hf a f with h | ⟨m, _, h⟩
        · exact .inl h
        · exact .inr ⟨m, List.mem_range.mpr (S.fin m a h), h⟩
/-- [elt for tg in iter if ..] -/
theorem ve_comp {elt tg iter : Expr} {ifs : List Expr} {scope : Scope} {own : List (Str × Nat)} {pos : Pos} {f : VI} {T : List Nat} {g : VG} {tt : VT} {fe : VE} (hc : X.calm = true) (hN : X.N.Nodup) (hi : VIok X Cl tg iter f) (ok : BlkOk X.N X.env.scope scope own)
    (hg : ∀ (s : Shared) (H : Hp) (C : Addr) (cl : List (Str × Addr)) (fp : List Addr), VGok (X.blk s H scope (compEnvC scope cl C X.env) fp) Cl T tg g)
    (ht : ∀ (s : Shared) (H : Hp) (C : Addr) (cl : List (Str × Addr)) (fp : List Addr), VTsok (X.blk s H scope (compEnvC scope cl C X.env) fp) Cl ifs tt)
    (he : ∀ (s : Shared) (H : Hp) (C : Addr) (cl : List (Str × Addr)) (fp : List Addr), VEok (X.blk s H scope (compEnvC scope cl C X.env) fp) Cl elt fe)
    (hT : ∀ j ∈ T, j ∈ own.map (·.2)) (hs : ∀ x, foldedSetIterable iter X.env x = pure x := by intro _; rfl) : VEok X Cl (.ListComp elt [⟨tg, iter, ifs, 0⟩] scope pos) (vComp f (own.map (·.2)) g tt fe) := by
  obtain ⟨wi, pi, qi⟩ := hi
  exact ⟨_, pe_lc (g := cG X.K Cl T g) (tt := cT X.K Cl tt) (te := cE X.K Cl fe) hc hN pi ok (fun s H C cl fp => (hg s H C cl fp).canon) (fun s H C cl fp => ht s H C cl fp) (fun s H C cl fp => (he s H C cl fp).canon) hs, fun H0 G σ H env Fs ow r Q S e k => comp_ok hT qi S e k⟩
/-- name = [..], the name a plain local -/
theorem vs_setLc (i : Nat) {W : WX} {y : Str} {py : Pos} {elt tg iter : Expr} {ifs : List Expr} {scope : Scope} {own : List (Str × Nat)} {pos spos : Pos} {f : VI} {T : List Nat} {g : VG} {tt : VT} {fe : VE} (hc : X.calm = true) (hN : X.N.Nodup) (hi : VIok X Cl tg iter f) (ok : BlkOk X.N X.env.scope scope own)
    (hg : ∀ (s : Shared) (H : Hp) (C : Addr) (cl : List (Str × Addr)) (fp : List Addr), VGok (X.blk s H scope (compEnvC scope cl C X.env) fp) Cl T tg g)
    (ht : ∀ (s : Shared) (H : Hp) (C : Addr) (cl : List (Str × Addr)) (fp : List Addr), VTsok (X.blk s H scope (compEnvC scope cl C X.env) fp) Cl ifs tt)
    (he : ∀ (s : Shared) (H : Hp) (C : Addr) (cl : List (Str × Addr)) (fp : List Addr), VEok (X.blk s H scope (compEnvC scope cl C X.env) fp) Cl elt fe)
    (hT : ∀ j ∈ T, j ∈ own.map (·.2)) (hy : X.N[i]? = some y := by rfl) (hyl : X.env.scope.names.lookup y = some .local := by rfl)
    (hsw : swapsWith (.ListComp elt [⟨tg, iter, ifs, 0⟩] scope pos) (some (.Name y py)) spos.line X.env = pure true := by exact sw_true rfl rfl rfl (by decide +kernel)) (hs : ∀ x, foldedSetIterable iter X.env x = pure x := by intro _; rfl) :
    VSok X W Cl (.Assign [.Name y py] (.ListComp elt [⟨tg, iter, ifs, 0⟩] scope pos) spos) (vSet i (vComp f (own.map (·.2)) g tt fe)) := by
  obtain ⟨wi, pi, qi⟩ := hi
  refine ⟨_, ps_setLc (g := cG X.K Cl T g) (tt := cT X.K Cl tt) (te := cE X.K Cl fe) hc hN hy hyl hsw pi ok (fun s H C cl fp => (hg s H C cl fp).canon) (fun s H C cl fp => ht s H C cl fp) (fun s H C cl fp => (he s H C cl fp).canon) hs, fun H0 G D σ H env Fs ow S k => ?_⟩
  unfold vSet at k
  split at k
  · rename_i r er
    split at k
    · rename_i hl
      refine comp_ok hT qi S er fun v H1 s1 w1 => ?_
      obtain ⟨Fs', ow', h1, h2⟩ := S.put hl s1 w1
      exact k _ _ _ _ h1 h2
    · exact k.elim
  · exact k.elim
end
end VL

namespace VL
open PySem PySem.Spec L2 PyProof.Rows

/-! ### a list of one's own is changed -/
/-- slot i now holds the list es; what was put in leans on al -/
def chg (i : Nat) (es : List D) (al : List Nat) (e : Ev) : Ev := (frz al e).set i (some (1, .lst es))
section
variable {K : PySem.W.Frag} {Cl : ClsT} {H0 H H' : Hp} {G : ASet} {σ : L2.St} {env : Ev} {Fs : Nat → ASet} {ow : Nat → List Addr}
/-- slot i holds a list of its own -/
theorem StOk.mine (S : StOk K Cl H0 G σ H env Fs ow) {i fl : Nat} {ds : List D} (e : env[i]? = some (some (fl, .lst ds))) (hfl : 1 ≤ fl) :
    ∃ a xs F', σ[i]? = some (some (.ref a)) ∧ H a = some (.lst xs) ∧ Reps K Cl H F' xs ds ∧ ¬ F' a ∧ (∀ b, F' b → Fs i b) ∧ Fs i a ∧ a ∈ ow i := by
  obtain ⟨v, h1, h2, h3⟩ := S.val i fl _ e
  obtain ⟨a, F', rfl, o, n, m, fa, ha⟩ := h3.top hfl rfl
  cases o with
  | lst h r => exact ⟨a, _, F', h1, h, r, n, m, fa, ha⟩
/-- .. and is changed -/
theorem StOk.chg (S : StOk K Cl H0 G σ H env Fs ow) (s : Same H H') {i fl : Nat} {ds es : List D} {al : List Nat} {a : Addr} {xs ys : List V} {F' F : ASet} (e : env[i]? = some (some (fl, .lst ds)))
    (h1 : σ[i]? = some (some (.ref a))) (ha : H a = some (.lst xs)) (ha' : a ∈ ow i) (n : ¬ F' a) (m : ∀ b, F' b → Fs i b) (t : ∀ b, F b → H' b ≠ none) (f : ∀ b, F b → H b = none ∨ ∃ j ∈ al, Fs j b) (ni : i ∉ al) (r : Reps K Cl H' (fun b => F' b ∨ F b) ys es) :
    ∃ Fs' ow', Stp H ow (upd H' a (.lst ys)) ow' ∧ StOk K Cl H0 G σ (upd H' a (.lst ys)) (chg i es al env) Fs' ow' := by
  have hi : i < env.length := (List.getElem?_eq_some_iff.mp e).1
  obtain ⟨qa1, qa2, qa3⟩ := S.own i a ha'
  have nF : ¬ F a := fun fa => by
    rcases f a fa with h | ⟨j, hj, h⟩
    · rw [ha] at h; cases h
    · exact qa3 j (fun z => ni (z ▸ hj)) h
  have ha2 : H' a = some (.lst xs) := s a _ ha
  have nn : ¬ (F' a ∨ F a) := fun z => z.elim n nF
  have st : ∀ {F0 : ASet}, ¬ F0 a → Stay F0 H' (upd H' a (.lst ys)) := fun h0 => Stay.upd ha2 h0 (fun _ z => by cases z) ⟨(fun _ _ z => by cases z), fun _ z => by cases z⟩
  have y := (S.frz (al := al)).go s
  let F2 : ASet := fun b => b = a ∨ F' b ∨ F b
  refine ⟨ins1 i F2 Fs, ins1 i [a] (noOws al ow), ⟨fun b o eb nb => ?_, fun b ⟨j, hj⟩ => ?_⟩, fun b o eb => ?_, ?_, fun j fl' d' e' => ?_, fun j b fb => ?_, fun j b fb => ?_, fun j b hb => ?_, fun j b hb => ?_, fun j b fb => ?_⟩
  · rw [upd_ne (fun z => nb ⟨i, by rw [z]; exact ha'⟩)]; exact s b o eb
  · by_cases hj' : j = i
    · subst hj'
      rw [ins1_same, List.mem_singleton] at hj
      subst hj
      exact .inl ⟨j, ha'⟩
    · rw [ins1_ne hj'] at hj; exact .inl ⟨j, noOws_sub (al := al) j b hj⟩
  · rw [upd_ne (fun z => by subst z; rw [qa2] at eb; cases eb)]; exact y.same b o eb
  · unfold VL.chg; rw [List.length_set, frz_length]; exact S.len
  · unfold VL.chg at e'
    by_cases hj : j = i
    · subst hj
      rw [List.getElem?_set_self (by rw [frz_length]; exact hi)] at e'
      cases e'
      rw [ins1_same, ins1_same]
      have r2 := r.go (st nn) fun _ h => h
      exact ⟨.ref a, h1, .lst upd_same (.inl rfl) (r2.mono fun b h => .inr h), .one (F' := fun b => F' b ∨ F b) (.lst upd_same r2) nn (fun b h => .inr h) (.inl rfl)⟩
    · rw [List.getElem?_set_ne (fun z => hj z.symm)] at e'
      rw [ins1_ne hj, ins1_ne hj]
      obtain ⟨v, k1, k2, k3⟩ := y.val j fl' d' e'
      have na : ¬ Fs j a := qa3 j hj
      exact ⟨v, k1, k2.go (st na) fun _ h => h, k3.go (st na) fun _ h => h⟩
  · by_cases hba : b = a
    · subst hba; rw [upd_same]; intro z; cases z
    · rw [upd_ne hba]
      by_cases hj : j = i
      · subst hj
        rw [ins1_same] at fb
        rcases fb with fb | fb | fb
        · exact absurd fb hba
        · exact y.trk j b (m b fb)
        · exact t b fb
      · rw [ins1_ne hj] at fb; exact y.trk j b fb
  · by_cases hj : j = i
    · subst hj
      rw [ins1_same] at fb
      rcases fb with fb | fb | fb
      · subst fb; exact .inl qa2
      · exact S.base j b (m b fb)
      · rcases f b fb with h | ⟨k, _, h⟩
        · exact .inl (S.same.free h)
        · exact S.base k b h
    · rw [ins1_ne hj] at fb; exact S.base j b fb
  · by_cases hj : j = i
    · subst hj
      rw [ins1_same, List.mem_singleton] at hb
      subst hb
      exact ⟨by rw [ins1_same]; exact .inl rfl, qa2, fun k hk => by rw [ins1_ne hk]; exact qa3 k hk⟩
    · rw [ins1_ne hj] at hb
      have hb' := noOws_sub (al := al) j b hb
      obtain ⟨p1, p2, p3⟩ := S.own j b hb'
      refine ⟨by rw [ins1_ne hj]; exact p1, p2, fun k hk => ?_⟩
      by_cases hki : k = i
      · subst hki
        rw [ins1_same]
        rintro (fb | fb | fb)
        · subst fb; exact p3 k hk qa1
        · exact p3 k hk (m b fb)
        · rcases f b fb with h | ⟨q, hq, h⟩
          · exact S.trk j b p1 h
          · by_cases hqj : q = j
            · subst hqj; exact noOws_not hb hq
            · exact p3 q hqj h
      · rw [ins1_ne hki]; exact p3 k hk
  · by_cases hba : b = a
    · subst hba; exact ⟨_, upd_same, (fun _ z => by cases z), ⟨(fun _ _ z => by cases z), fun _ z => by cases z⟩⟩
    · rw [upd_ne hba]
      by_cases hj : j = i
      · subst hj; rw [ins1_same, List.mem_singleton] at hb; exact absurd hb hba
      · rw [ins1_ne hj] at hb; exact y.kind j b hb
  · have hlen : (VL.chg i es al env).length = env.length := by unfold VL.chg; rw [List.length_set, frz_length]
    rw [hlen]
    by_cases hj : j = i
    · subst hj; exact hi
    · rw [ins1_ne hj] at fb; exact S.fin j b fb
end
def notIn (i : Nat) : List Nat → Bool
  | [] => true
  | j :: r => !(j == i) && notIn i r
theorem notIn_of : ∀ {i : Nat} {al : List Nat}, notIn i al = true → i ∉ al
  | _, [], _, h => by cases h
  | i, j :: r, h, z => by
    rw [notIn, Bool.and_eq_true, Bool.not_eq_true', beq_eq_false_iff_ne] at h
    rcases List.mem_cons.mp z with e | z
    · exact h.1 e.symm
    · exact notIn_of h.2 z
section
variable {X : Cx} {W : WX} {Cl : ClsT}
/-- x.append(e) -/
def vApp (i : Nat) (f : VE) : VS := fun env => match f env with
  | some r => match env[i]? with
    | some (some (fl, .lst ds)) => if (decide (1 ≤ fl) && notIn i r.al) && decide (ds.length < 16777216) then .nx (chg i (ds ++ [r.d]) r.al env) else .no
    | _ => .no
  | none => .no
theorem vs_append (i : Nat) {x : Str} {e : Expr} {p apos cpos pos : Pos} {f : VE} (h : VEok X Cl e f) (hN : X.N[i]? = some x := by rfl) (hv : Vis X.env.scope x := by first | exact Or.inl rfl | exact Or.inr (Or.inl rfl) | exact Or.inr (Or.inr rfl)) (hd : (x == ("__debug__" : Str)) = false := by decide)
    (hcd : (x == ("__classdict__" : Str)) = false := by decide) (hbase : attributeBase (.Name x p) "append" X.env (eval (.Name x p) X.env) = eval (.Name x p) X.env := by rfl)
    (hfew : ((backTo cpos (starEach [e] X.env)).all (fun x => !x.1) && (backToKw cpos (keywordEach [] X.env)).all (fun x => x.1.isSome) && decide ([e].length + ([] : List Keyword).length + (if ([] : List Keyword).isEmpty then 0 else 1) < 30)) = true := by rfl)
    (hline : (apos.endLine == cpos.line) = true := by rfl) (hs : starEach [e] X.env = (false, eval e X.env) :: starEach [] X.env := by rfl) (hplain : (backTo cpos (starEach [] X.env)).any (·.1) = false := by rfl)
    (hw : swapsWith (.Call (.Attribute (.Name x p) "append" apos) [e] [] cpos) none pos.line X.env = pure false := by rfl) :
    VSok X W Cl (.Expr (.Call (.Attribute (.Name x p) "append" apos) [e] [] cpos) pos) (vApp i f) := by
  obtain ⟨te, pe, qe⟩ := h
  refine ⟨_, ps_expr (pe_bm PySem.F.plainAttrs_list PySem.F.slot_list_append PySem.F.type_list_append mt_append (pe_var (i := i) hN hv hd hcd) (pa_cons pe pa_nil hs) hbase hfew hline hs hplain) hw, fun H0 G D σ H env Fs ow S k => ?_⟩
  unfold vApp at k
  split at k <;> (first | (exact k.elim; done) | skip)
  rename_i r er
  split at k <;> (first | (exact k.elim; done) | skip)
  rename_i fl ds ex
  split at k <;> (first | (exact k.elim; done) | skip)
  rename_i hc
  simp only [Bool.and_eq_true, decide_eq_true_eq] at hc
  obtain ⟨a, xs, F', h1, ha, ra, n, m, fa, hao⟩ := S.mine ex hc.1.1
  refine ⟨_, h1, .inl ⟨rfl, _, SqL.of ha⟩, ?_⟩
  refine qe _ _ _ _ _ _ _ _ _ S er fun v H1 s1 w1 => ?_
  obtain ⟨F, wo, q1, q2, q3, q4, q5⟩ := w1
  refine ⟨a, xs, v, rfl, rfl, s1 a _ ha, by rw [ra.length, sizeLine_eq]; exact hc.2, ?_⟩
  obtain ⟨Fs', ow', k1, k2⟩ := S.chg s1 ex h1 ha hao n m q2 q3 (notIn_of hc.1.2) (((ra.same s1).mono fun _ => .inl).append (.cons (q1.mono fun _ => .inr) .nil))
  exact k _ _ _ _ k1 k2
/-- x[j] = e -/
def vPut (i : Nat) (fj f : VE) : VS := fun env => match f env with
  | some r => match fj env with
    | some y => match y.d with
      | .int j => match env[i]? with
        | some (some (fl, .lst ds)) => match ixN ds.length j with
          | some m => if decide (1 ≤ fl) && notIn i r.al then .nx (chg i (ds.set m r.d) r.al env) else .no
          | none => .no
        | _ => .no
      | _ => .no
    | none => .no
  | none => .no
theorem vs_put (i : Nat) {x : Str} {e j : Expr} {p tpos pos : Pos} {f fj : VE} (h : VEok X Cl e f) (hj : VEok X Cl j fj) (hN : X.N[i]? = some x := by rfl) (hv : Vis X.env.scope x := by first | exact Or.inl rfl | exact Or.inr (Or.inl rfl) | exact Or.inr (Or.inr rfl)) (hd : (x == ("__debug__" : Str)) = false := by decide)
    (hcd : (x == ("__classdict__" : Str)) = false := by decide)
    (ha : ∀ v, assign (.Subscript (.Name x p) j tpos) X.env v = (do
      let ov ← holding [v] (eval (.Name x p) X.env)
      let iv ← holding [v, ov] (eval j X.env)
      standAt tpos
      holding [v, ov, iv] (setItem ov iv v)
      release [v, ov, iv] []) := by intro _; rfl)
    (hs : swapsWithSole [.Subscript (.Name x p) j tpos] e pos.line X.env = pure false := by rfl) (hw : swappedStores [.Subscript (.Name x p) j tpos] e X.env = pure none := by rfl)
    (h1 : (assignEach [.Subscript (.Name x p) j tpos] X.env).map (·.2) = [assign (.Subscript (.Name x p) j tpos) X.env] := by rfl) : VSok X W Cl (.Assign [.Subscript (.Name x p) j tpos] e pos) (vPut i fj f) := by
  obtain ⟨te, pe, qe⟩ := h
  obtain ⟨tj, pj, qj⟩ := hj
  refine ⟨_, ps_asg pe (pg_sub (pe_var (i := i) hN hv hd hcd) pj set_list ha) hs hw h1, fun H0 G D σ H env Fs ow S k => ?_⟩
  unfold vPut at k
  split at k <;> (first | (exact k.elim; done) | skip)
  rename_i r er
  split at k <;> (first | (exact k.elim; done) | skip)
  rename_i y ey
  split at k <;> (first | (exact k.elim; done) | skip)
  rename_i jj ejj
  split at k <;> (first | (exact k.elim; done) | skip)
  rename_i fl ds ex
  split at k <;> (first | (exact k.elim; done) | skip)
  rename_i mm em
  split at k <;> (first | (exact k.elim; done) | skip)
  rename_i hc
  simp only [Bool.and_eq_true, decide_eq_true_eq] at hc
  obtain ⟨a, xs, F', h1, ha, ra, n, m, fa, hao⟩ := S.mine ex hc.1
  refine qe _ _ _ _ _ _ _ _ _ S er fun v H1 s1 w1 => ⟨_, h1, qj _ _ _ _ _ _ _ _ _ (S.go s1) ey fun u H2 s2 w2 => ?_⟩
  have w3 := w1.same s2
  obtain ⟨F, wo, q1, q2, q3, q4, q5⟩ := w3
  have s12 := s1.trans s2
  refine ⟨a, xs, jj, mm, rfl, val_int w2 ejj, s12 a _ ha, by rw [ra.length]; exact em, ?_⟩
  obtain ⟨Fs', ow', k1, k2⟩ := S.chg s12 ex h1 ha hao n m q2 q3 (notIn_of hc.2) (Reps.set (q1.mono fun _ => .inr) mm ((ra.same s12).mono fun _ => .inl))
  exact k _ _ _ _ k1 k2
/-- x.insert(j, e) -/
def vIns (i : Nat) (g : VA) : VS := fun env => match g env with
  | some [y, r] => match y.d with
    | .int j => match env[i]? with
      | some (some (fl, .lst ds)) => if (decide (1 ≤ fl) && notIn i r.al) && (decide (ds.length < 16777216) && (decide (0 ≤ j) && decide (j < 16777216))) then .nx (chg i (ds.take j.toNat ++ [r.d] ++ ds.drop j.toNat) r.al env) else .no
      | _ => .no
    | _ => .no
  | _ => .no
theorem vs_insert (i : Nat) {x : Str} {e j : Expr} {p apos cpos pos : Pos} {g : VA} (h : VAok X Cl [j, e] g) (hN : X.N[i]? = some x := by rfl) (hv : Vis X.env.scope x := by first | exact Or.inl rfl | exact Or.inr (Or.inl rfl) | exact Or.inr (Or.inr rfl)) (hd : (x == ("__debug__" : Str)) = false := by decide)
    (hcd : (x == ("__classdict__" : Str)) = false := by decide) (hbase : attributeBase (.Name x p) "insert" X.env (eval (.Name x p) X.env) = eval (.Name x p) X.env := by rfl)
    (hfew : ((backTo cpos (starEach [j, e] X.env)).all (fun x => !x.1) && (backToKw cpos (keywordEach [] X.env)).all (fun x => x.1.isSome) && decide ([j, e].length + ([] : List Keyword).length + (if ([] : List Keyword).isEmpty then 0 else 1) < 30)) = true := by rfl)
    (hline : (apos.endLine == cpos.line) = true := by rfl) (hs : starEach [j, e] X.env = (false, eval j X.env) :: starEach [e] X.env := by rfl) (hplain : (backTo cpos (starEach [e] X.env)).any (·.1) = false := by rfl)
    (hw : swapsWith (.Call (.Attribute (.Name x p) "insert" apos) [j, e] [] cpos) none pos.line X.env = pure false := by rfl) :
    VSok X W Cl (.Expr (.Call (.Attribute (.Name x p) "insert" apos) [j, e] [] cpos) pos) (vIns i g) := by
  obtain ⟨te, pe, qe⟩ := h
  refine ⟨_, ps_expr (pe_bm PySem.F.plainAttrs_list PySem.F.slot_list_insert PySem.F.type_list_insert mt_insert (pe_var (i := i) hN hv hd hcd) pe hbase hfew hline hs hplain) hw, fun H0 G D σ H env Fs ow S k => ?_⟩
  unfold vIns at k
  split at k <;> (first | (exact k.elim; done) | skip)
  rename_i y r er
  split at k <;> (first | (exact k.elim; done) | skip)
  rename_i jj ejj
  split at k <;> (first | (exact k.elim; done) | skip)
  rename_i fl ds ex
  split at k <;> (first | (exact k.elim; done) | skip)
  rename_i hc
  simp only [Bool.and_eq_true, decide_eq_true_eq] at hc
  obtain ⟨a, xs, F', h1, ha, ra, n, m, fa, hao⟩ := S.mine ex hc.1.1
  refine ⟨_, h1, .inl ⟨rfl, _, SqL.of ha⟩, ?_⟩
  refine qe _ _ _ _ _ _ _ _ _ S er fun vs H2 s2 w => ?_
  obtain ⟨u, v, H1, rfl, sa, sb, w1, w2⟩ := vals_two w
  have w3 := w2.from sa
  obtain ⟨F, wo, q1, q2, q3, q4, q5⟩ := w3
  refine ⟨a, xs, jj, v, rfl, by rw [val_int w1 ejj], s2 a _ ha, by rw [ra.length, sizeLine_eq]; exact hc.2.1, hc.2.2.1, by omega, ?_⟩
  have rr := (ra.same s2).mono (F' := fun b => F' b ∨ F b) fun _ => .inl
  obtain ⟨Fs', ow', k1, k2⟩ := S.chg s2 ex h1 ha hao n m q2 q3 (notIn_of hc.1.2) (((rr.take jj.toNat).append (.cons (q1.mono fun _ => .inr) .nil)).append (rr.drop jj.toNat))
  exact k _ _ _ _ k1 k2
end
end VL

namespace VL
open PySem PySem.Spec L2 PyProof.Rows

/-! ### defs: what they promise -/
inductive Fr where
  | ok (d : D) (l : Nat) | ex (c : Nat) (fs : List (Str × D)) | no
abbrev CF := List D → Fr
def FrOk (K : PySem.W.Frag) (Cl : ClsT) (H : Hp) (G : ASet) (Q : VK) (E : XK) : Fr → Prop
  | .ok d l => ∀ v H', Same H H' → RetOk K Cl H H' G v d l → Q v H'
  | .ex c fs => ∀ cls d H', Same H H' → ExcIs K Cl H' cls d c fs → E cls d H'
  | .no => False
def spV (K : PySem.W.Frag) (Cl : ClsT) (n : Nat) (cf : CF) : Sp := fun vs H Q E => ∃ (ds : List D) (G : ASet), vs.length = n ∧ Reps K Cl H G vs ds ∧ (∀ a, G a → H a ≠ none) ∧ FrOk K Cl H G Q E (cf ds)
def env0 (N : Nat) (ds : List D) : Ev := ds.map (fun d => some (0, d)) ++ List.replicate (N - ds.length) none
/-- a def of N slots, n parameters, by its body -/
def vDef (N : Nat) (body : VS) : CF := fun ds => match body (env0 N ds) with
  | .ret d l => .ok d l
  | .nx _ => .ok .non 2
  | .ex _ c fs => .ex c fs
  | _ => .no
theorem StOk.init {K : PySem.W.Frag} {Cl : ClsT} {H : Hp} {G : ASet} {N : List Str} {vs : List V} {ds : List D} (r : Reps K Cl H G vs ds) (t : ∀ a, G a → H a ≠ none) (hn : vs.length ≤ N.length) :
    StOk K Cl H G (L2.start N vs) H (env0 N.length ds) (fun i a => i < N.length ∧ G a) (fun _ => []) := by
  have hl := r.length
  have hlen : (env0 N.length ds).length = N.length := by
    unfold env0
    rw [List.length_append, List.length_map, List.length_replicate]
    omega
  refine ⟨Same.refl _, ?_, fun i fl d e => ?_, fun i a f => t a f.2, fun i a f => .inr f.2, (fun i a h => by cases h), (fun i a h => by cases h), fun i a f => by rw [hlen]; exact f.1⟩
  · rw [hlen]
    unfold L2.start
    rw [List.length_append, List.length_map, List.length_replicate]
    omega
  · unfold env0 at e
    have hi : i < ds.length := by
      by_cases hi : i < ds.length
      · exact hi
      · rw [List.getElem?_append_right (by simpa using hi), List.getElem?_replicate] at e
        split at e <;> cases e
    rw [List.getElem?_append_left (by simpa using hi), List.getElem?_map] at e
    cases hd : ds[i]? with
    | none => rw [hd] at e; cases e
    | some d' =>
      rw [hd] at e
      cases e
      obtain ⟨v, h1, h2⟩ := r.get hd
      refine ⟨v, ?_, h2.mono fun a f => ⟨by omega, f⟩, .zero⟩
      unfold L2.start
      rw [List.getElem?_append_left (by rw [List.length_map]; omega), List.getElem?_map, h1]
      rfl
section
variable {P : Program} {w : World} {K : PySem.W.Frag} {mg : Str → Option Value} {base : Heap} {Cl : ClsT}
/-- the body of a def, in its context -/
abbrev bodyCx (P : Program) (w : World) (K : PySem.W.Frag) (mg : Str → Option Value) (base : Heap) (N : List Str) (qual : Str) (st : Stmt) (f : Addr) (cdv : Value) (A : Around) (outer : List Env) (s : Shared) (H : Hp) (E : XK) : Cx := cxOf (L2.CX P w) P w K mg base N qual (defScope st) f cdv A outer s H E
abbrev wE (E : XK) : WX := fun cls d _ H => E cls d H
theorem fn_v {x qual : Str} {st : Stmt} {f : Addr} {fd : FuncData} {N ps : List Str} {k n : Nat} {body : VS} (F : Fun K x qual st f fd) (S : FnScope N ps (defScope st)) (hn : ps.length = n)
    (hb : ∀ (cdv : Value) (A : Around) (outer : List Env) (s : Shared) (H : Hp) (E : XK), Room k (A.deeper (envOfC qual (defScope st) s.heap.objs.size f cdv)) → VBok (bodyCx P w K mg base N qual st f cdv A outer s H E) (wE E) Cl (defBody st) body) :
    FnOk P w K mg base (L2.CX P w) (k + 1) f fd ps (spV K Cl n (vDef N.length body)) := by
  have hpl : ps.length ≤ N.length := by have := congrArg List.length S.pre; rw [List.length_take] at this; omega
  refine F.okX S (fun vs H Q E h => ?_) (fun cdv A outer s H vs Q E hr h => ?_)
  · obtain ⟨ds, G, h1, _⟩ := h
    rw [h1, hn]
  · obtain ⟨ds, G, h1, r, t, fr⟩ := h
    obtain ⟨tt, p, q⟩ := hb cdv A outer s H E hr
    refine ⟨tt, p, q H G _ _ _ _ _ _ (StOk.init r t (by omega)) ?_⟩
    unfold vDef at fr
    cases e : body (env0 N.length ds) with
    | nx e1 =>
      rw [e] at fr
      exact fun σ' H' Fs' ow' s' x => fr _ H' x.same ⟨fun _ => False, [], .non, fun _ f => f.elim, fun _ f => f.elim, .pure rfl, fun _ z => by cases z⟩
    | bk e1 => rw [e] at fr; exact fr.elim
    | ct e1 => rw [e] at fr; exact fr.elim
    | ret d l =>
      rw [e] at fr
      exact fun v H' kp x => fr v H' (fun a o eo => kp a o eo fun ⟨_, z⟩ => by cases z) x
    | ex e1 c fs =>
      rw [e] at fr
      exact fun σ' H' Fs' ow' cls d s' x y => fr cls d H' x.same y
    | no => rw [e] at fr; exact fr.elim
end

/-! ### calls of one's own -/
section
variable {X : Cx} {Cl : ClsT}
def frRv (al : List Nat) : Fr → Option Rv
  | .ok d l => some (nrm ⟨d, l, al⟩)
  | _ => none
def vCallF (cf : CF) (a : VA) : VE := fun env => match a env with
  | some rs => frRv (alOf rs) (cf (dsOf rs))
  | none => none
theorem ret_val {K : PySem.W.Frag} {Hs H H' : Hp} {Fs : Nat → ASet} {G : ASet} {al : List Nat} {v : V} {d : D} {l : Nat} (s : Same Hs H) (hG : ∀ a, G a → Hs a = none ∨ ∃ j ∈ al, Fs j a) (w : RetOk K Cl H H' G v d l) : ValOk K Cl Hs H' Fs v ⟨d, l, al⟩ := by
  obtain ⟨F, wo, h1, h2, h3, h4, h5⟩ := w
  exact ⟨F, wo, h1, h2, fun a f => (h3 a f).elim (fun h => .inl (s.free h)) (hG a), h4, fun a ha => s.free (h5 a ha)⟩
theorem ve_call {x : Str} {p pos : Pos} {e : Expr} {es : List Expr} {k n : Nat} {f : Addr} {fd : FuncData} {ps : List Str} {cf : CF} {fa : VA} (F : FnOk X.prog X.w X.K X.mg X.base (L2.CX X.prog X.w) k f fd ps (spV X.K Cl n cf)) (hr : Room k X.A) (hm : X.mg x = some (.ref f)) (hk : PySem.W.keepIn X.K (.ref f) = true) (hb : Binds X.K fd ps [])
    (hn : (e :: es).length = n) (ha : VAok X Cl (e :: es) fa) (hl : ∀ env rs, fa env = some rs → rs.length = n) (hg : Gl X x := by rfl)
    (hdb : (x == ("__debug__" : Str)) = false := by decide) (he : starEach (e :: es) X.env = (false, eval e X.env) :: starEach es X.env := by rfl) (hpl : (backTo pos (starEach es X.env)).any (·.1) = false := by rfl) : VEok X Cl (.Call (.Name x p) (e :: es) [] pos) (vCallF cf fa) := by
  obtain ⟨ta, pa, qa⟩ := ha
  refine ⟨_, pe_call F hr hg hm hk hb .nil passL pa hdb he hpl, fun H0 G σ H env Fs ow r Q S er kk => ?_⟩
  unfold vCallF at er
  split at er <;> (first | (cases er; done) | skip)
  rename_i rs ers
  refine qa _ _ _ _ _ _ _ _ _ S ers fun vs H1 s1 w1 => ?_
  obtain ⟨F1, r1, t1, f1⟩ := w1.reps
  refine ⟨dsOf rs, F1, ?_, by rw [List.append_nil]; exact r1, t1, ?_⟩
  · rw [List.append_nil, w1.length]; exact hl _ _ ers
  · cases ec : cf (dsOf rs) with
    | ok d l =>
      rw [ec] at er
      cases er
      exact fun v H' s2 w2 => kk v H' (s1.trans s2) (.nrm (ret_val s1 f1 w2))
    | ex c fs => rw [ec] at er; cases er
    | no => rw [ec] at er; cases er
theorem len_nil : ∀ (env : Ev) rs, (fun _ : Ev => (some [] : Option (List Rv))) env = some rs → rs.length = 0 := fun _ _ e => by cases e; rfl
theorem len_cons {f : VE} {g : VA} {n : Nat} (h : ∀ env rs, g env = some rs → rs.length = n) : ∀ env rs, vCons f g env = some rs → rs.length = n + 1 := fun env rs e => by
  unfold vCons at e
  split at e <;> (first | (cases e; done) | skip)
  split at e <;> (first | (cases e; done) | skip)
  rename_i xs exs
  cases e
  rw [List.length_cons, h _ _ exs]
end
end VL
namespace VL
open PySem PySem.Spec L2 PyProof.Rows
/-- a def of the text by its name -/
def FnH (P : Program) (w : World) (K : PySem.W.Frag) (mg : Str → Option Value) (base : Heap) (Cl : ClsT) (k n : Nat) (x : Str) (ps : List Str) (cf : CF) : Prop :=
  ∃ f fd, mg x = some (.ref f) ∧ PySem.W.keepIn K (.ref f) = true ∧ Binds K fd ps [] ∧ FnOk P w K mg base (L2.CX P w) k f fd ps (spV K Cl n cf)
theorem room65 {k : Nat} {A : Around} (r : Room k A) : A.units + 65 < cLine := by have := r.un; omega
theorem ve_callH {X : Cx} {Cl : ClsT} {x : Str} {p pos : Pos} {e : Expr} {es : List Expr} {k n : Nat} {ps : List Str} {cf : CF} {fa : VA} (F : FnH X.prog X.w X.K X.mg X.base Cl k n x ps cf) (hr : Room k X.A)
    (hn : (e :: es).length = n) (ha : VAok X Cl (e :: es) fa) (hl : ∀ env rs, fa env = some rs → rs.length = n) (hg : Gl X x := by rfl)
    (hdb : (x == ("__debug__" : Str)) = false := by decide) (he : starEach (e :: es) X.env = (false, eval e X.env) :: starEach es X.env := by rfl) (hpl : (backTo pos (starEach es X.env)).any (·.1) = false := by rfl) : VEok X Cl (.Call (.Name x p) (e :: es) [] pos) (vCallF cf fa) := by
  obtain ⟨f, fd, hm, hk, hb, G⟩ := F
  exact ve_call G hr hm hk hb hn ha hl hg hdb he hpl
end VL

namespace VL
open PySem PySem.Spec L2 PyProof.Rows

/-! ### max and min of a tuple of ints -/
section
variable {prog : Program} {w : World} {A : Around} {E : Value → Shared → Prop} {s : Shared} {l : Addr} {xs : Array (Int × Tok)}
theorem iter_intTuple {Q : Value → Shared → Prop} (hl : s.heap.IsTuple l (intItems xs))
    (h : ∀ s₂ : Shared, s₂ = { s with heap := s.heap.push { cls := .type "tuple_iterator", data := .fields #[.ref l, .int 0 0] } } →
      (s₂.heap.IsTupleIter s.heap.objs.size l 0 ∧ s₂.heap.IsTuple l (intItems xs)) → (∀ b ∈ [s.heap.objs.size, l], b < s₂.heap.objs.size) → l ≠ s.heap.objs.size → Q (.ref s.heap.objs.size) s₂) :
    wpAny (model prog w) A (pyIter (.ref l)) Q E s := by
  have hlt : l < s.heap.objs.size := by obtain ⟨_, e, _⟩ := hl; exact Heap.lt_size e
  refine wpAny_pyIter_tuple hl (h _ rfl ⟨⟨_, Heap.get?_push_size _ rfl, rfl, rfl⟩, hl.at fun o e => Heap.get?_push_of_some _ e⟩ (fun b hb => ?_) (Nat.ne_of_lt hlt))
  show b < (s.heap.push _).objs.size
  rw [Heap.size_push]
  rcases List.mem_cons.mp hb with rfl | hb
  · exact Nat.lt_succ_self _
  · rcases List.mem_cons.mp hb with rfl | hb
    · exact Nat.lt_succ_of_lt hlt
    · cases hb
theorem old_keptT {h' : Heap} (hk : ∀ b o, b ∉ [s.heap.objs.size] → (s.heap.push { cls := .type "tuple_iterator", data := .fields #[.ref l, .int 0 0] }).get? b = some o → h'.get? b = some o) :
    ∀ b o, s.heap.get? b = some o → h'.get? b = some o := fun b o e => by
  refine hk b o (fun hm => ?_) (Heap.get?_push_of_some _ e)
  rcases List.mem_cons.mp hm with e1 | hm
  · exact absurd (e1 ▸ Heap.lt_size e) (Nat.lt_irrefl _)
  · cases hm
theorem max_intTuple {Q : Value → Shared → Prop} (hh : A.handled = none) (hl : s.heap.IsTuple l (intItems xs)) (hne : 0 < xs.size)
    (h : ∀ v h' tk, (intItems xs)[argBest (fun i j => decide (numAt xs i > numAt xs j)) (xs.size - 1)]? = some v → (∀ b o, s.heap.get? b = some o → h'.get? b = some o) → Q v { s with heap := h', toks := tk }) :
    wpAny (model prog w) A (call (.builtin "max") [.ref l]) Q E s := by
  refine call_max_walk (iter_intTuple hl fun s₂ e st hfp hlI => ?_)
  subst e
  refine ⟨_, _, _, _, _, _, _, rfl, Walks.tuple (A := A.in1) hh _ l hlI (intItems xs), st, hfp, by simpa [intItems] using hne, CmpOf.ints_gt (numAt xs) (fun _ _ => intItems_at), fun v h' tk hP hk => ?_⟩
  exact h v h' tk (by simpa [intItems] using hP) (old_keptT hk)
theorem min_intTuple {Q : Value → Shared → Prop} (hh : A.handled = none) (hl : s.heap.IsTuple l (intItems xs)) (hne : 0 < xs.size)
    (h : ∀ v h' tk, (intItems xs)[argBest (fun i j => decide (numAt xs i < numAt xs j)) (xs.size - 1)]? = some v → (∀ b o, s.heap.get? b = some o → h'.get? b = some o) → Q v { s with heap := h', toks := tk }) :
    wpAny (model prog w) A (call (.builtin "min") [.ref l]) Q E s := by
  refine call_min_walk (iter_intTuple hl fun s₂ e st hfp hlI => ?_)
  subst e
  refine ⟨_, _, _, _, _, _, _, rfl, Walks.tuple (A := A.in1) hh _ l hlI (intItems xs), st, hfp, by simpa [intItems] using hne, CmpOf.ints_lt (numAt xs) (fun _ _ => intItems_at), fun v h' tk hP hk => ?_⟩
  exact h v h' tk (by simpa [intItems] using hP) (old_keptT hk)
theorem max_rawT {its : List Value} {ns : List Int} {Q : Value → Shared → Prop} (hh : A.handled = none) (hl : s.heap.IsTuple l its.toArray) (hi : IntsAre its ns) (hne : 0 < ns.length)
    (h : ∀ h' tk M t', (∀ b o, s.heap.get? b = some o → h'.get? b = some o) → M ∈ ns → (∀ a, a ∈ ns → a ≤ M) → Q (.int M t') { s with heap := h', toks := tk }) : wpAny (model prog w) A (call (.builtin "max") [.ref l]) Q E s := by
  obtain ⟨xs, e⟩ := hi.allInts.items
  have hn : numsOf (intItems xs).toList = ns := by rw [← e]; exact hi.numsOf
  rw [nums_intItems] at hn
  subst hn
  rw [e] at hl
  have hsz : 0 < xs.size := by simpa using hne
  refine max_intTuple hh hl hsz fun v h' tk hv hk => ?_
  obtain ⟨t, rfl⟩ := intItems_at hv
  obtain ⟨h1, h2⟩ := argBest_gt (numAt xs) (xs.size - 1)
  refine h h' tk _ t hk ?_ fun a ha => ?_
  · rw [numAt_eq]; exact PySem.getD_mem (by rw [List.length_map, Array.length_toList]; omega)
  · obtain ⟨j, hj, rfl⟩ := mem_getD ha
    rw [List.length_map, Array.length_toList] at hj
    rw [← numAt_eq]; exact h2 j (by omega)
theorem min_rawT {its : List Value} {ns : List Int} {Q : Value → Shared → Prop} (hh : A.handled = none) (hl : s.heap.IsTuple l its.toArray) (hi : IntsAre its ns) (hne : 0 < ns.length)
    (h : ∀ h' tk M t', (∀ b o, s.heap.get? b = some o → h'.get? b = some o) → M ∈ ns → (∀ a, a ∈ ns → M ≤ a) → Q (.int M t') { s with heap := h', toks := tk }) : wpAny (model prog w) A (call (.builtin "min") [.ref l]) Q E s := by
  obtain ⟨xs, e⟩ := hi.allInts.items
  have hn : numsOf (intItems xs).toList = ns := by rw [← e]; exact hi.numsOf
  rw [nums_intItems] at hn
  subst hn
  rw [e] at hl
  have hsz : 0 < xs.size := by simpa using hne
  refine min_intTuple hh hl hsz fun v h' tk hv hk => ?_
  obtain ⟨t, rfl⟩ := intItems_at hv
  obtain ⟨h1, h2⟩ := argBest_lt (numAt xs) (xs.size - 1)
  refine h h' tk _ t hk ?_ fun a ha => ?_
  · rw [numAt_eq]; exact PySem.getD_mem (by rw [List.length_map, Array.length_toList]; omega)
  · obtain ⟨j, hj, rfl⟩ := mem_getD ha
    rw [List.length_map, Array.length_toList] at hj
    rw [← numAt_eq]; exact h2 j (by omega)
end

/-! ### data of one kind -/
def intsD : List D → Option (List Int)
  | [] => some []
  | .int i :: r => match intsD r with
    | some xs => some (i :: xs)
    | none => none
  | _ :: _ => none
def blsD : List D → Option (List Bool)
  | [] => some []
  | .bl i :: r => match blsD r with
    | some xs => some (i :: xs)
    | none => none
  | _ :: _ => none
theorem intsD_map : ∀ ns : List Int, intsD (ns.map D.int) = some ns
  | [] => rfl
  | n :: ns => by rw [List.map_cons, intsD, intsD_map ns]
theorem blsD_map : ∀ ns : List Bool, blsD (ns.map D.bl) = some ns
  | [] => rfl
  | n :: ns => by rw [List.map_cons, blsD, blsD_map ns]
theorem intsD_of : ∀ {ds : List D} {ns : List Int}, intsD ds = some ns → ds = ns.map D.int
  | [], ns, e => by cases e; rfl
  | d :: r, ns, e => by
    cases d <;> first | (cases e; done) | skip
    rw [intsD] at e
    split at e <;> (first | (cases e; done) | skip)
    rename_i xs ex
    cases e
    rw [List.map_cons, intsD_of ex]
theorem blsD_of : ∀ {ds : List D} {ns : List Bool}, blsD ds = some ns → ds = ns.map D.bl
  | [], ns, e => by cases e; rfl
  | d :: r, ns, e => by
    cases d <;> first | (cases e; done) | skip
    rw [blsD] at e
    split at e <;> (first | (cases e; done) | skip)
    rename_i xs ex
    cases e
    rw [List.map_cons, blsD_of ex]
section
variable {K : PySem.W.Frag} {Cl : ClsT} {H : Hp} {F : ASet}
theorem reps_intsV : ∀ {ns : List Int} {xs : List V}, Reps K Cl H F xs (ns.map D.int) → xs = ns.map V.int
  | [], _, h => by cases h; rfl
  | n :: ns, _, h => by
    cases h with
    | cons a b => rw [List.map_cons, a.int_of, reps_intsV b]
theorem reps_blsV : ∀ {ns : List Bool} {xs : List V}, Reps K Cl H F xs (ns.map D.bl) → xs = ns.map V.bl
  | [], _, h => by cases h; rfl
  | n :: ns, _, h => by
    cases h with
    | cons a b => rw [List.map_cons, a.bl_of, reps_blsV b]
end
section
variable {X : Cx} {Cl : ClsT}
/-! ### sum, all, any, max, min -/
def gSum : Rv → Option Rv := fun x => match x.d with
  | .lst ds => match intsD ds with
    | some ns => some ⟨.int ns.sum, 2, []⟩
    | none => none
  | _ => none
theorem cv_sum : CallV1 X Cl (rSum X.K) gSum := by
  intro Hs H Fs v x rr Q s w e k
  unfold gSum at e
  split at e <;> (first | (cases e; done) | skip)
  rename_i ds ed
  split at e <;> (first | (cases e; done) | skip)
  rename_i ns en
  cases e
  obtain ⟨F, r1⟩ := w.rep
  rw [ed, intsD_of en] at r1
  obtain ⟨a, us, rfl, ha, _, ra⟩ := r1.lst_of
  rw [reps_intsV ra] at ha
  exact ⟨a, ns, rfl, SqL.of ha, k _ _ (Same.refl _) (.pureV (.int _) rfl)⟩
def gAll : Rv → Option Rv := fun x => match x.d with
  | .lst ds => match blsD ds with
    | some ns => some ⟨.bl (ns.all id), 2, []⟩
    | none => none
  | _ => none
theorem cv_all : CallV1 X Cl (rAll X.K) gAll := by
  intro Hs H Fs v x rr Q s w e k
  unfold gAll at e
  split at e <;> (first | (cases e; done) | skip)
  rename_i ds ed
  split at e <;> (first | (cases e; done) | skip)
  rename_i ns en
  cases e
  obtain ⟨F, r1⟩ := w.rep
  rw [ed, blsD_of en] at r1
  obtain ⟨a, us, rfl, ha, _, ra⟩ := r1.lst_of
  rw [reps_blsV ra] at ha
  exact ⟨a, ns, rfl, SqL.of ha, k _ _ (Same.refl _) (.pureV (.bl _) rfl)⟩
def gAny : Rv → Option Rv := fun x => match x.d with
  | .lst ds => match blsD ds with
    | some ns => some ⟨.bl (ns.any id), 2, []⟩
    | none => none
  | _ => none
theorem cv_any : CallV1 X Cl (rAny X.K) gAny := by
  intro Hs H Fs v x rr Q s w e k
  unfold gAny at e
  split at e <;> (first | (cases e; done) | skip)
  rename_i ds ed
  split at e <;> (first | (cases e; done) | skip)
  rename_i ns en
  cases e
  obtain ⟨F, r1⟩ := w.rep
  rw [ed, blsD_of en] at r1
  obtain ⟨a, us, rfl, ha, _, ra⟩ := r1.lst_of
  rw [reps_blsV ra] at ha
  exact ⟨a, ns, rfl, SqL.of ha, k _ _ (Same.refl _) (.pureV (.bl _) rfl)⟩
def maxL : Int → List Int → Int
  | m, [] => m
  | m, x :: r => maxL (if m < x then x else m) r
def minL : Int → List Int → Int
  | m, [] => m
  | m, x :: r => minL (if x < m then x else m) r
theorem maxL_ge : ∀ (r : List Int) (m : Int), m ≤ maxL m r ∧ (∀ x ∈ r, x ≤ maxL m r) ∧ (maxL m r = m ∨ maxL m r ∈ r)
  | [], m => ⟨Int.le_refl _, (fun _ h => by cases h), .inl rfl⟩
  | x :: r, m => by
    obtain ⟨h1, h2, h3⟩ := maxL_ge r (if m < x then x else m)
    rw [maxL]
    refine ⟨?_, fun y hy => ?_, ?_⟩
    · split at h1 <;> rename_i h <;> first | (rw [if_pos h]; omega) | (rw [if_neg h]; omega)
    · rcases List.mem_cons.mp hy with rfl | hy
      · split at h1 <;> rename_i h <;> first | (rw [if_pos h]; omega) | (rw [if_neg h]; omega)
      · exact h2 y hy
    · rcases h3 with h3 | h3
      · by_cases h : m < x
        · rw [if_pos h] at h3 ⊢; exact .inr (by rw [h3]; exact List.mem_cons_self)
        · rw [if_neg h] at h3 ⊢; exact .inl h3
      · exact .inr (List.mem_cons_of_mem _ h3)
theorem minL_le : ∀ (r : List Int) (m : Int), minL m r ≤ m ∧ (∀ x ∈ r, minL m r ≤ x) ∧ (minL m r = m ∨ minL m r ∈ r)
  | [], m => ⟨Int.le_refl _, (fun _ h => by cases h), .inl rfl⟩
  | x :: r, m => by
    obtain ⟨h1, h2, h3⟩ := minL_le r (if x < m then x else m)
    rw [minL]
    refine ⟨?_, fun y hy => ?_, ?_⟩
    · split at h1 <;> rename_i h <;> first | (rw [if_pos h]; omega) | (rw [if_neg h]; omega)
    · rcases List.mem_cons.mp hy with rfl | hy
      · split at h1 <;> rename_i h <;> first | (rw [if_pos h]; omega) | (rw [if_neg h]; omega)
      · exact h2 y hy
    · rcases h3 with h3 | h3
      · by_cases h : x < m
        · rw [if_pos h] at h3 ⊢; exact .inr (by rw [h3]; exact List.mem_cons_self)
        · rw [if_neg h] at h3 ⊢; exact .inl h3
      · exact .inr (List.mem_cons_of_mem _ h3)
theorem max_uniq {m x : Int} {r : List Int} (h1 : m ∈ x :: r) (h2 : ∀ y ∈ x :: r, y ≤ m) : m = maxL x r := by
  obtain ⟨a, b, c⟩ := maxL_ge r x
  have hm : m ≤ maxL x r := by
    rcases List.mem_cons.mp h1 with h | h
    · rw [h]; exact a
    · exact b m h
  have hx : maxL x r ≤ m := by
    rcases c with c | c
    · rw [c]; exact h2 x List.mem_cons_self
    · exact h2 _ (List.mem_cons_of_mem _ c)
  omega
theorem min_uniq {m x : Int} {r : List Int} (h1 : m ∈ x :: r) (h2 : ∀ y ∈ x :: r, m ≤ y) : m = minL x r := by
  obtain ⟨a, b, c⟩ := minL_le r x
  have hm : minL x r ≤ m := by
    rcases List.mem_cons.mp h1 with h | h
    · rw [h]; exact a
    · exact b m h
  have hx : m ≤ minL x r := by
    rcases c with c | c
    · rw [c]; exact h2 x List.mem_cons_self
    · exact h2 _ (List.mem_cons_of_mem _ c)
  omega
def itemsOf : D → Option (List D)
  | .lst ds => some ds
  | .tup ds => some ds
  | _ => none
def gMax1 : Rv → Option Rv := fun x => match itemsOf x.d with
  | some ds => match intsD ds with
    | some (n :: ns) => some ⟨.int (maxL n ns), 2, []⟩
    | _ => none
  | none => none
def gMin1 : Rv → Option Rv := fun x => match itemsOf x.d with
  | some ds => match intsD ds with
    | some (n :: ns) => some ⟨.int (minL n ns), 2, []⟩
    | _ => none
  | none => none
def rMaxT (K : PySem.W.Frag) : List V → Hp → VK → Prop := fun vs H Q => ∃ (a : Addr) (ns : List Int), vs = [V.ref a] ∧ SqT K H a (ns.map V.int) ∧ 0 < ns.length ∧ ∀ m, m ∈ ns → (∀ y, y ∈ ns → y ≤ m) → Q (.int m) H
def rMinT (K : PySem.W.Frag) : List V → Hp → VK → Prop := fun vs H Q => ∃ (a : Addr) (ns : List Int), vs = [V.ref a] ∧ SqT K H a (ns.map V.int) ∧ 0 < ns.length ∧ ∀ m, m ∈ ns → (∀ y, y ∈ ns → m ≤ y) → Q (.int m) H
theorem cr_maxT (hc : X.calm = true) : CallR X (.builtin "max") (rMaxT X.K) := by
  intro pins s σ H vs us Q I r h
  obtain ⟨a, ns, rfl, hs, hne, q⟩ := h
  obtain ⟨its, rv, hl, _⟩ := I.tuple hs
  rw [Vals.ref1 r]
  exact max_rawT (I.ok.hd hc) (show s.heap.IsTuple a its.toArray from hl) rv.ints hne fun h' tk m t' hk h1 h2 => ⟨.int _, H, I.kept hk, ⟨_, rfl⟩, q m h1 h2⟩
theorem cr_minT (hc : X.calm = true) : CallR X (.builtin "min") (rMinT X.K) := by
  intro pins s σ H vs us Q I r h
  obtain ⟨a, ns, rfl, hs, hne, q⟩ := h
  obtain ⟨its, rv, hl, _⟩ := I.tuple hs
  rw [Vals.ref1 r]
  exact min_rawT (I.ok.hd hc) (show s.heap.IsTuple a its.toArray from hl) rv.ints hne fun h' tk m t' hk h1 h2 => ⟨.int _, H, I.kept hk, ⟨_, rfl⟩, q m h1 h2⟩
theorem seq_ints {K : PySem.W.Frag} {Hs H : Hp} {Fs : Nat → ASet} {v : V} {x : Rv} {ds : List D} {ns : List Int} (w : ValOk K Cl Hs H Fs v x) (e1 : itemsOf x.d = some ds) (e2 : intsD ds = some ns) : ∃ a, v = .ref a ∧ (SqL K H a (ns.map V.int) ∨ SqT K H a (ns.map V.int)) := by
  obtain ⟨F, r1⟩ := w.rep
  cases hd : x.d <;> rw [hd] at e1 r1 <;> first | (cases e1; done) | skip
  · cases e1
    rw [intsD_of e2] at r1
    obtain ⟨a, us, rfl, ha, _, ra⟩ := r1.lst_of
    rw [reps_intsV ra] at ha
    exact ⟨a, rfl, .inl (SqL.of ha)⟩
  · cases e1
    rw [intsD_of e2] at r1
    obtain ⟨a, us, rfl, ha, ra⟩ := r1.tup_of
    rw [reps_intsV ra] at ha
    exact ⟨a, rfl, .inr ha⟩
theorem cv_max1 : CallV1 X Cl (fun vs H Q => rMax X.K vs H Q ∨ rMaxT X.K vs H Q) gMax1 := by
  intro Hs H Fs v x rr Q s w e k
  unfold gMax1 at e
  split at e <;> (first | (cases e; done) | skip)
  rename_i ds ed
  split at e <;> (first | (cases e; done) | skip)
  rename_i n ns en
  cases e
  have fin : ∀ m, m ∈ n :: ns → (∀ y, y ∈ n :: ns → y ≤ m) → Q (.int m) H := fun m h1 h2 => by
    rw [max_uniq h1 h2]; exact k _ _ (Same.refl _) (.pureV (.int _) rfl)
  obtain ⟨a, rfl, h | h⟩ := seq_ints w ed en
  · exact .inl ⟨a, n :: ns, rfl, h, Nat.succ_pos _, fin⟩
  · exact .inr ⟨a, n :: ns, rfl, h, Nat.succ_pos _, fin⟩
theorem cv_min1 : CallV1 X Cl (fun vs H Q => rMin X.K vs H Q ∨ rMinT X.K vs H Q) gMin1 := by
  intro Hs H Fs v x rr Q s w e k
  unfold gMin1 at e
  split at e <;> (first | (cases e; done) | skip)
  rename_i ds ed
  split at e <;> (first | (cases e; done) | skip)
  rename_i n ns en
  cases e
  have fin : ∀ m, m ∈ n :: ns → (∀ y, y ∈ n :: ns → m ≤ y) → Q (.int m) H := fun m h1 h2 => by
    rw [min_uniq h1 h2]; exact k _ _ (Same.refl _) (.pureV (.int _) rfl)
  obtain ⟨a, rfl, h | h⟩ := seq_ints w ed en
  · exact .inl ⟨a, n :: ns, rfl, h, Nat.succ_pos _, fin⟩
  · exact .inr ⟨a, n :: ns, rfl, h, Nat.succ_pos _, fin⟩
def g2I (g : Int → Int → Int) : List Rv → Option Rv
  | [x, y] => match x.d, y.d with
    | .int i, .int j => some ⟨.int (g i j), 2, []⟩
    | _, _ => none
  | _ => none
theorem cv_2I {g : Int → Int → Int} : CallV X Cl (fun xs H Q => ∃ i j, xs = [V.int i, V.int j] ∧ Q (.int (g i j)) H) (g2I g) := by
  intro Hs H Fs vs rs rr Q s w e k
  unfold g2I at e
  split at e <;> (first | (cases e; done) | skip)
  rename_i x y
  split at e <;> (first | (cases e; done) | skip)
  rename_i i j e1 e2
  cases e
  obtain ⟨v, u, H1, rfl, _, _, w1, w2⟩ := vals_two w
  exact ⟨i, j, by rw [val_int w1 e1, val_int w2 e2], k _ _ (Same.refl _) (.pureV (.int _) rfl)⟩
/-! ### tuple(..), list(..) -/
def gTuple : Rv → Option Rv := fun x => match itemsOf x.d with
  | some ds => some (nrm ⟨.tup ds, 0, x.al⟩)
  | none => none
theorem cv_tuple : CallV1 X Cl (fun xs H Q => ∃ p ys, xs = [V.ref p] ∧ ((SqL X.K H p ys ∧ ∀ l, H l = none → Q (.ref l) (upd H l (.tup ys))) ∨ (SqT X.K H p ys ∧ Q (.ref p) H))) gTuple := by
  intro Hs H Fs v x rr Q s w e k
  unfold gTuple at e
  split at e <;> (first | (cases e; done) | skip)
  rename_i ds ed
  cases e
  obtain ⟨F, _, r1, t, f, _⟩ := w
  cases hd : x.d <;> rw [hd] at ed r1 <;> first | (cases ed; done) | skip
  · cases ed
    obtain ⟨a, us, rfl, ha, _, ra⟩ := r1.lst_of
    exact ⟨a, us, rfl, .inl ⟨SqL.of ha, fun l hl => k _ _ (same_upd hl) (new_tup ra t f hl)⟩⟩
  · cases ed
    obtain ⟨a, us, rfl, ha, ra⟩ := r1.tup_of
    exact ⟨a, us, rfl, .inr ⟨ha, k _ _ (Same.refl _) (.nrm ⟨F, [], .tup ha ra, t, f, .zero, fun _ z => by cases z⟩)⟩⟩
def gList : Rv → Option Rv := fun x => match itemsOf x.d with
  | some ds => some (mkL ds x.al)
  | none => none
theorem cv_list : CallV1 X Cl (fun xs H Q => ∃ p ys, xs = [V.ref p] ∧ (SqL X.K H p ys ∨ SqT X.K H p ys) ∧ ∀ l, H l = none → Q (.ref l) (upd H l (.lst ys))) gList := by
  intro Hs H Fs v x rr Q s w e k
  unfold gList at e
  split at e <;> (first | (cases e; done) | skip)
  rename_i ds ed
  cases e
  obtain ⟨F, _, r1, t, f, _⟩ := w
  cases hd : x.d <;> rw [hd] at ed r1 <;> first | (cases ed; done) | skip
  · cases ed
    obtain ⟨a, us, rfl, ha, _, ra⟩ := r1.lst_of
    exact ⟨a, us, rfl, .inl (SqL.of ha), fun l hl => k _ _ (same_upd hl) (new_list s ra t f hl)⟩
  · cases ed
    obtain ⟨a, us, rfl, ha, ra⟩ := r1.tup_of
    exact ⟨a, us, rfl, .inr ha, fun l hl => k _ _ (same_upd hl) (new_list s ra t f hl)⟩

/-! ### the rules by name -/
variable {p pos : Pos} {e e2 : Expr} {fa : VA}
theorem ve_sum (hc : X.calm = true) (hm : X.mg "sum" = none) (ha : VAok X Cl [e] fa) (hg : Gl X "sum" := by rfl) (he : starEach [e] X.env = (false, eval e X.env) :: starEach [] X.env := by rfl) (hpl : (backTo pos (starEach [] X.env)).any (·.1) = false := by rfl) :
    VEok X Cl (.Call (.Name "sum" p) [e] [] pos) (vCall (g1 gSum) fa) := ve_callB (cr_sum hc) cv_sum.all hm ha (by decide +kernel) hg (by decide) (by decide) he hpl
theorem ve_all (hc : X.calm = true) (hm : X.mg "all" = none) (ha : VAok X Cl [e] fa) (hg : Gl X "all" := by rfl) (he : starEach [e] X.env = (false, eval e X.env) :: starEach [] X.env := by rfl) (hpl : (backTo pos (starEach [] X.env)).any (·.1) = false := by rfl) :
    VEok X Cl (.Call (.Name "all" p) [e] [] pos) (vCall (g1 gAll) fa) := ve_callB (cr_all hc) cv_all.all hm ha (by decide +kernel) hg (by decide) (by decide) he hpl
theorem ve_any (hc : X.calm = true) (hm : X.mg "any" = none) (ha : VAok X Cl [e] fa) (hg : Gl X "any" := by rfl) (he : starEach [e] X.env = (false, eval e X.env) :: starEach [] X.env := by rfl) (hpl : (backTo pos (starEach [] X.env)).any (·.1) = false := by rfl) :
    VEok X Cl (.Call (.Name "any" p) [e] [] pos) (vCall (g1 gAny) fa) := ve_callB (cr_any hc) cv_any.all hm ha (by decide +kernel) hg (by decide) (by decide) he hpl
theorem ve_max1 (hc : X.calm = true) (hm : X.mg "max" = none) (ha : VAok X Cl [e] fa) (hg : Gl X "max" := by rfl) (he : starEach [e] X.env = (false, eval e X.env) :: starEach [] X.env := by rfl) (hpl : (backTo pos (starEach [] X.env)).any (·.1) = false := by rfl) :
    VEok X Cl (.Call (.Name "max" p) [e] [] pos) (vCall (g1 gMax1) fa) := ve_callB ((cr_max hc).or (cr_maxT hc)) cv_max1.all hm ha (by decide +kernel) hg (by decide) (by decide) he hpl
theorem ve_min1 (hc : X.calm = true) (hm : X.mg "min" = none) (ha : VAok X Cl [e] fa) (hg : Gl X "min" := by rfl) (he : starEach [e] X.env = (false, eval e X.env) :: starEach [] X.env := by rfl) (hpl : (backTo pos (starEach [] X.env)).any (·.1) = false := by rfl) :
    VEok X Cl (.Call (.Name "min" p) [e] [] pos) (vCall (g1 gMin1) fa) := ve_callB ((cr_min hc).or (cr_minT hc)) cv_min1.all hm ha (by decide +kernel) hg (by decide) (by decide) he hpl
theorem ve_max2 (hc : X.calm = true) (hm : X.mg "max" = none) (ha : VAok X Cl [e, e2] fa) (hg : Gl X "max" := by rfl) (he : starEach [e, e2] X.env = (false, eval e X.env) :: starEach [e2] X.env := by rfl) (hpl : (backTo pos (starEach [e2] X.env)).any (·.1) = false := by rfl) :
    VEok X Cl (.Call (.Name "max" p) [e, e2] [] pos) (vCall (g2I fun i j => if j > i then j else i) fa) := ve_callB (call_max2 hc) cv_2I hm ha (by decide +kernel) hg (by decide) (by decide) he hpl
theorem ve_min2 (hc : X.calm = true) (hm : X.mg "min" = none) (ha : VAok X Cl [e, e2] fa) (hg : Gl X "min" := by rfl) (he : starEach [e, e2] X.env = (false, eval e X.env) :: starEach [e2] X.env := by rfl) (hpl : (backTo pos (starEach [e2] X.env)).any (·.1) = false := by rfl) :
    VEok X Cl (.Call (.Name "min" p) [e, e2] [] pos) (vCall (g2I fun i j => if j < i then j else i) fa) := ve_callB (call_min2 hc) cv_2I hm ha (by decide +kernel) hg (by decide) (by decide) he hpl
theorem ve_tuple (hm : X.mg "tuple" = none) (ha : VAok X Cl [e] fa) (hg : Gl X "tuple" := by rfl) (he : starEach [e] X.env = (false, eval e X.env) :: starEach [] X.env := by rfl) (hpl : (backTo pos (starEach [] X.env)).any (·.1) = false := by rfl) :
    VEok X Cl (.Call (.Name "tuple" p) [e] [] pos) (vCall (g1 gTuple) fa) := ve_callTy call_tuple_of cv_tuple.all hm ha (by decide +kernel) hg (by decide) (by decide) he hpl
theorem ve_list (hm : X.mg "list" = none) (ha : VAok X Cl [e] fa) (hg : Gl X "list" := by rfl) (he : starEach [e] X.env = (false, eval e X.env) :: starEach [] X.env := by rfl) (hpl : (backTo pos (starEach [] X.env)).any (·.1) = false := by rfl) :
    VEok X Cl (.Call (.Name "list" p) [e] [] pos) (vCall (g1 gList) fa) := ve_callTy call_list_of cv_list.all hm ha (by decide +kernel) hg (by decide) (by decide) he hpl
end
end VL

namespace VL
open PySem PySem.Spec L2 PyProof.Rows

/-! ### isinstance of a built-in class -/
def tyN : D → Option String
  | .non => some "NoneType"
  | .bl _ => some "bool"
  | .int _ => some "int"
  | .str _ => some "str"
  | .lst _ => some "list"
  | .tup _ => some "tuple"
  | .dic _ => some "dict"
  | _ => none
inductive BTy where | int | bool | str | list | tuple | dict
def BTy.name : BTy → String | .int => "int" | .bool => "bool" | .str => "str" | .list => "list" | .tuple => "tuple" | .dict => "dict"
def isiD : BTy → D → Option Bool
  | .int, .int _ => some true
  | .int, .bl _ => some true
  | .bool, .bl _ => some true
  | .str, .str _ => some true
  | .list, .lst _ => some true
  | .tuple, .tup _ => some true
  | .dict, .dic _ => some true
  | _, .ins _ _ => none
  | _, .scr _ => none
  | _, .exc _ _ => none
  | _, .kdc _ => none
  | _, _ => some false
theorem isiD_kit {b : BTy} {d : D} {r : Bool} (h : isiD b d = some r) : ∃ t, tyN d = some t ∧ kitB t b.name = some r := by
  cases b <;> cases d <;> first
    | (cases h; done)
    | (cases h; exact ⟨_, rfl, by decide +kernel⟩)
theorem rep_ty {K : PySem.W.Frag} {Cl : ClsT} {H : Hp} {F : ASet} {v : V} {d : D} {t : String} (h : Rep K Cl H F v d) (e : tyN d = some t) : TyX K H v (.type t) := by
  cases h <;> first | (cases e; done) | skip
  · cases e; exact .base .non
  · cases e; exact .base (.bl _)
  · cases e; exact .base (.int _)
  · cases e; exact .base (.str _)
  · cases e
    rename_i hq _
    rcases hq with (hq | ⟨o, hq⟩) | ⟨o, its, n, hk, hc, _⟩
    · exact .base (.tup hq)
    · exact .fTuple hq
    · exact .kTuple hk hc
  · cases e
    rename_i hq _ _
    exact .base (.lst hq)
  · cases e
    rename_i hq _ _
    exact .base (.dK hq)
section
variable {X : Cx} {Cl : ClsT}
def gIsi (b : BTy) : Rv → Option Rv := fun x => match isiD b x.d with
  | some r => some ⟨.bl r, 2, []⟩
  | none => none
theorem ve_isi (b : BTy) {T : Str} {a : Expr} {p p2 pos : Pos} {f : VE} (hm : X.mg "isinstance" = none) (hmT : X.mg T = none) (ha : VEok X Cl a f) (hT : bootBuiltins T = some (.type b.name) := by decide +kernel) (hg : Gl X "isinstance" := by rfl) (hgT : Gl X T := by rfl)
    (hnT : T ≠ "__name__" := by decide) (hdT : (T == ("__debug__" : Str)) = false := by decide)
    (hs : starEach [a, .Name T p2] X.env = (false, eval a X.env) :: starEach [.Name T p2] X.env := by rfl) (hs2 : starEach [.Name T p2] X.env = (false, eval (.Name T p2) X.env) :: starEach [] X.env := by rfl) (hpl : (backTo pos (starEach [.Name T p2] X.env)).any (·.1) = false := by rfl) :
    VEok X Cl (.Call (.Name "isinstance" p) [a, .Name T p2] [] pos) (v1 (gIsi b) f) := by
  obtain ⟨ta, pa, qa⟩ := ha
  refine ⟨_, pe_callB call_isi hg hm (by decide +kernel) (pa_cons pa (pa_cons (pe_bltn (v := .ty b.name) hgT hmT hT rfl hnT hdT) pa_nil hs2) hs) (by decide) (by decide) hs hpl, fun H0 G σ H env Fs ow r Q S e k => ?_⟩
  unfold v1 at e
  split at e <;> (first | (cases e; done) | skip)
  rename_i x ex
  unfold gIsi at e
  split at e <;> (first | (cases e; done) | skip)
  rename_i rb er
  cases e
  refine qa _ _ _ _ _ _ _ _ _ S ex fun v H1 s1 w1 => ?_
  obtain ⟨t, ht, hk⟩ := isiD_kit er
  obtain ⟨F, rr⟩ := w1.rep
  exact ⟨v, .ty b.name, .type t, .type b.name, rb, rfl, .ty _, rep_ty rr ht, kit_ty hk, k _ _ s1 (.pureV (.bl _) rfl)⟩

/-! ### is True, is False -/
def gIsB (b : Bool) : Rv → Option Rv := fun x => match x.d with
  | .bl c => some ⟨.bl (c == b), 2, []⟩
  | .ins _ _ => none
  | .scr _ => none
  | .exc _ _ => none
  | _ => some ⟨.bl false, 2, []⟩
theorem is_bool_gen {M : Model} {A : Around} {E : Value → Shared → Prop} {s : Shared} {Q : Value → Shared → Prop} {v : Value} {b : Bool} (hb : ∀ id, v ≠ .builtin id) (h : Q (.bool (v == .bool b)) s) : wpAny M A (compareOp .Is v (.bool b)) Q E s := by
  cases v <;> first
    | exact wpAny_pure h
    | exact absurd rfl (hb _)
theorem beq_val_bool {v : Value} {b c : Bool} (h : v = .bool b → c = true) (h' : v ≠ .bool b → c = false) : (v == Value.bool b) = c := by
  by_cases e : v = .bool b
  · rw [h e, e]; exact beq_self_eq_true _
  · rw [h' e]; exact beq_eq_false_iff_ne.mpr e
def tIsB (b : Bool) (ta : TE) : TE := fun σ H Q => ta σ H fun x H1 => Q (.bl (decide (x = .bl b))) H1
theorem relV_builtin {x : V} {v : Value} (r : RelV x v) : ∀ id, v ≠ .builtin id := fun id z => by
  subst z
  cases x <;> first
    | (cases (show Value.builtin id = _ from r); done)
    | (obtain ⟨t, e⟩ := r; cases e)
theorem pc_isB {b : Bool} {a : Expr} {pos' : Pos} {j : Nat} {ta : TE} (pa : PE X a ta) : PC X .Is a (.Constant (.bool b) j pos') (tIsB b ta) := by
  refine ⟨fun pins s σ H Q I h => ?_⟩
  refine thn (pa.run pins s σ H _ I h) fun v s1 ⟨x, H1, I1, r1, q1⟩ => Constant_bool (is_bool_gen (relV_builtin r1) ?_)
  have e : (v == Value.bool b) = decide (x = .bl b) := beq_val_bool (fun e => by
    subst e
    have : x = .bl b := RelV.inj r1 rfl
    rw [this]; exact decide_eq_true rfl) (fun ne => decide_eq_false fun z => ne (by rw [z] at r1; exact r1))
  rw [e]
  exact ⟨.bl _, H1, I1, rfl, q1⟩
theorem isB_val {K : PySem.W.Frag} {Hs H : Hp} {Fs : Nat → ASet} {v : V} {x rr : Rv} {b : Bool} (w : ValOk K Cl Hs H Fs v x) (e : gIsB b x = some rr) : rr = ⟨.bl (decide (v = .bl b)), 2, []⟩ := by
  obtain ⟨F, h⟩ := w.rep
  unfold gIsB at e
  cases hd : x.d <;> rw [hd] at e h <;> dsimp only at e <;> (first | (cases e; done) | skip) <;> cases e <;> cases h
  all_goals first
    | (rw [decide_eq_false (fun z => by cases z)]; done)
    | (rw [dec_bl])
theorem ve_isB {b : Bool} {a : Expr} {pos pos' : Pos} {j : Nat} {f : VE} (ha : VEok X Cl a f) : VEok X Cl (.Compare a [.Is] [.Constant (.bool b) j pos'] pos) (v1 (gIsB b) f) := by
  obtain ⟨ta, pa, qa⟩ := ha
  refine ⟨_, pe_cmp (pc_isB pa) rfl, fun H0 G σ H env Fs ow rr Q S e k => ?_⟩
  unfold v1 at e
  split at e <;> (first | (cases e; done) | skip)
  rename_i x ex
  refine qa _ _ _ _ _ _ _ _ _ S ex fun v H1 s1 w1 => ?_
  have q := isB_val w1 e
  subst q
  exact k _ _ s1 (.pureV (.bl _) rfl)
theorem vt_isB {b : Bool} {a : Expr} {pos pos' : Pos} {j : Nat} {f : VE} (ha : VEok X Cl a f) : VTok X Cl (.Compare a [.Is] [.Constant (.bool b) j pos'] pos) (tB_ (v1 (gIsB b) f)) := by
  obtain ⟨ta, pa, qa⟩ := ha
  refine ⟨_, pt_cmp (pc_isB pa) rfl, fun H0 G σ H env Fs ow rb Q S e k => ?_⟩
  unfold tB_ v1 at e
  cases ex : f env with
  | none => rw [ex] at e; cases e
  | some x =>
    rw [ex] at e
    dsimp only at e
    cases eg : gIsB b x with
    | none => rw [eg] at e; cases e
    | some rr =>
      rw [eg] at e
      refine qa _ _ _ _ _ _ _ _ _ S ex fun v H1 s1 w1 => ⟨_, rfl, ?_⟩
      have q := isB_val w1 eg
      subst q
      cases e
      exact k H1 s1

/-! ### x.index(y) of a list, a tuple -/
def firstAt (p : PyData) : Nat → List PyData → Option Nat
  | _, [] => none
  | i, z :: r => if PyData.eqv z p then some i else firstAt p (i + 1) r
theorem firstAt_of {p : PyData} : ∀ {r : List PyData} {i j : Nat}, firstAt p i r = some j → i ≤ j ∧ (∃ z, r[j - i]? = some z ∧ PyData.eqv z p = true) ∧ ∀ m z, m < j - i → r[m]? = some z → PyData.eqv z p = false
  | [], i, j, e => by cases e
  | z :: r, i, j, e => by
    rw [firstAt] at e
    split at e
    · rename_i h
      cases e
      refine ⟨Nat.le_refl _, ⟨z, by simp, h⟩, fun m z' hm => by omega⟩
    · rename_i h
      obtain ⟨h1, ⟨z', h2, h3⟩, h4⟩ := firstAt_of e
      have e1 : j - i = (j - (i + 1)) + 1 := by omega
      refine ⟨by omega, ⟨z', by rw [e1, List.getElem?_cons_succ]; exact h2, h3⟩, fun m z2 hm hz => ?_⟩
      cases m with
      | zero =>
        rw [List.getElem?_cons_zero] at hz
        cases hz
        cases q : PyData.eqv z p with
        | false => rfl
        | true => exact absurd q h
      | succ m =>
        rw [List.getElem?_cons_succ] at hz
        exact h4 m z2 (by omega) hz
/-- slot i is a list; its first item like the argument -/
def vIndex (fo : VE) (g : VA) : VE := fun env => match fo env with
  | some o => match g env with
    | some [y] => match o.d with
      | .lst ds => match toPyL ds, toPy y.d with
        | some qs, some p => if SeqAt.shaped (.list qs) && SeqAt.shaped p then (match firstAt p 0 qs with
          | some j => some ⟨.int (j : Nat), 2, []⟩
          | none => none) else none
        | _, _ => none
      | _ => none
    | _ => none
  | none => none
theorem ve_indexL {o e : Expr} {apos cpos : Pos} {fo : VE} {g : VA} (hu : X.A.units + 65 < cLine) (ho : VEok X Cl o fo) (ha : VAok X Cl [e] g) (hbase : attributeBase o "index" X.env (eval o X.env) = eval o X.env := by rfl)
    (hfew : ((backTo cpos (starEach [e] X.env)).all (fun x => !x.1) && (backToKw cpos (keywordEach [] X.env)).all (fun x => x.1.isSome) && decide ([e].length + ([] : List Keyword).length + (if ([] : List Keyword).isEmpty then 0 else 1) < 30)) = true := by rfl)
    (hline : (apos.endLine == cpos.line) = true := by rfl) (hs : starEach [e] X.env = (false, eval e X.env) :: starEach [] X.env := by rfl) (hplain : (backTo cpos (starEach [] X.env)).any (·.1) = false := by rfl) :
    VEok X Cl (.Call (.Attribute o "index" apos) [e] [] cpos) (vIndex fo g) := by
  obtain ⟨to, po, qo⟩ := ho
  obtain ⟨ta, pa, qa⟩ := ha
  refine ⟨_, pe_bm PySem.F.plainAttrs_list PySem.F.slot_list_index PySem.F.type_list_index (mt_indexD hu) po pa hbase hfew hline hs hplain, fun H0 G σ H env Fs ow r Q S er k => ?_⟩
  unfold vIndex at er
  split at er <;> (first | (cases er; done) | skip)
  rename_i o' eo
  split at er <;> (first | (cases er; done) | skip)
  rename_i y ey
  split at er <;> (first | (cases er; done) | skip)
  rename_i ds ed
  split at er <;> (first | (cases er; done) | skip)
  rename_i qs p eq ep
  split at er <;> (first | (cases er; done) | skip)
  rename_i hsh
  split at er <;> (first | (cases er; done) | skip)
  rename_i j ej
  cases er
  rw [Bool.and_eq_true] at hsh
  refine qo _ _ _ _ _ _ _ _ _ S eo fun v H1 s1 w1 => ?_
  obtain ⟨F1, r1⟩ := w1.rep
  rw [ed] at r1
  obtain ⟨a, xs, rfl, hl, fa, ra⟩ := r1.lst_of
  refine ⟨.inl ⟨rfl, _, SqL.of hl⟩, qa _ _ _ _ _ _ _ _ _ (S.go s1) ey fun vs H2 s2 w2 => ?_⟩
  obtain ⟨u, rfl, w3⟩ := vals_one w2
  obtain ⟨F2, r2⟩ := w3.rep
  have rl : Rep X.K Cl H2 F1 (.ref a) (.lst ds) := (Rep.lst hl fa ra).same s2
  obtain ⟨h1, ⟨z, h2, h3⟩, h4⟩ := firstAt_of ej
  rw [Nat.sub_zero] at h2 h4
  exact ⟨a, u, p, qs, j, z, rfl, rfl, rl.dp (by rw [toPy, eq]), r2.dp ep, hsh.1, hsh.2, h2, h3, h4, k _ _ (s1.trans s2) (.pureV (.int _) rfl)⟩

/-! ### x += e -/
def vAug (i : Nat) (f : VE) : VS := fun env => match env[i]? with
  | some (some (_, .int a)) => match f env with
    | some r => match r.d with
      | .int b => if i < env.length then .nx (put i ⟨.int (a + b), 2, []⟩ env) else .no
      | _ => .no
    | none => .no
  | _ => .no
theorem vs_augAdd (i : Nat) {W : WX} {x : Str} {e : Expr} {tpos pos : Pos} {f : VE} (hN : X.N.Nodup) (h : VEok X Cl e f) (hi : X.N[i]? = some x := by rfl) (hx : Loc X.env.scope x := by first | exact Or.inl rfl | exact Or.inr rfl) (hf : X.fn x = true ∨ X.env.scope.names.lookup x = some .local := by first | exact .inl rfl | exact .inr rfl)
    (hd : (x == ("__debug__" : Str)) = false := by decide) : VSok X W Cl (.AugAssign (.Name x tpos) .Add e pos) (vAug i f) := by
  obtain ⟨t, p, q⟩ := h
  refine ⟨_, ps_aug (i := i) hN hi hx p ip_add, fun H0 G D σ H env Fs ow S k => ?_⟩
  unfold vAug at k
  split at k <;> (first | (exact k.elim; done) | skip)
  rename_i fl a ea
  split at k <;> (first | (exact k.elim; done) | skip)
  rename_i r er
  split at k <;> (first | (exact k.elim; done) | skip)
  rename_i b eb
  split at k <;> (first | (exact k.elim; done) | skip)
  rename_i hl
  obtain ⟨v, h1, h2, h3⟩ := S.val i fl _ ea
  have ev := h2.int_of
  subst ev
  refine ⟨_, h1, q _ _ _ _ _ _ _ _ _ S er fun u H1 s1 w1 => ⟨a, b, rfl, val_int w1 eb, ?_⟩⟩
  obtain ⟨Fs', ow', k1, k2⟩ := S.put hl s1 (r := ⟨.int (a + b), 2, []⟩) (.pureV (.int _) rfl)
  exact k _ _ _ _ k1 k2
end
end VL

namespace VL
open PySem PySem.Spec L2 PyProof.Rows

/-! ### own errors as values: made -/
section
variable {fs ex : List Addr} {H : Hp} {h h' : Heap} {a : Addr} {o : HO}
theorem un_laidN (k : ∀ b u, h.get? b = some u → h'.get? b = some u) (hp : h.get? a = none) (hn : H a = none) : Un fs ex H (upd H a o) h h' where
  keep := fun b u q _ _ _ => k b u q
  slot := fun b u q _ _ _ => ⟨u.slots, k b u q⟩
  free := fun b u q n _ => by rw [upd_ne (fun z => by rw [z, hp] at q; cases q)]; exact n
  there := fun b u q _ => ⟨u, k b u q⟩
  tups := fun b xs q => by rw [upd_ne (ne_of_none q hn)]; exact q
  frzs := fun b u xs q => by rw [upd_ne (ne_of_none q hn)]; exact q
  tbls := fun b ps q => ⟨#[], by rw [upd_ne (ne_of_none q hn), q]; simp⟩
theorem inv_laidN {X : Cx} {pins : List (Addr × Obj)} {σ : L2.St} {s : Shared} {t' : Nat} (I : Inv X pins σ H s) (k : ∀ b u, s.heap.get? b = some u → h'.get? b = some u) (hp : s.heap.get? a = none) (hn : H a = none) (new : ObjOk X.prog X.w (upd H a o) h' a o) :
    Inv X pins σ (upd H a o) { s with heap := h', toks := t' } := I.un (un_laidN k hp hn) fun b u e => by
  by_cases hb : b = a
  · subst hb
    rw [upd_same] at e
    cases e
    exact new
  · rw [upd_ne hb] at e
    exact (I.hok b u e).stay (fun c v _ q => k c v q) (fun c q => by rw [upd_ne (ne_of_none q hn)]; exact q) fun c xs q => by rw [upd_ne (ne_of_none q hn)]; exact q
end
section
variable {X : Cx} {pos p : Pos} {e : Expr} {es : List Expr} {ta : TA}
/-- C(e, ..), C's own __init__ keeping sp -/
def tMkV (C : Addr) (sp : Sp) (ta : TA) : TE := fun σ H Q => ta σ H fun vs H1 => vs.length ≤ 1000 ∧ ∀ a, H1 a = none → sp (.ref a :: vs) (upd H1 a (exo a C none)) (fun _ H2 => Q (.ref a) H2) (fun _ _ _ => False)
theorem pe_oexV {CX : CXT} {x : Str} {C fI : Addr} {k : Nat} {fd : FuncData} {ps : List Str} {sp : Sp} (T : OexC X.K C) (iC : PySem.W.findIn X.K (.ref C) "__init__" = some (some (.ref fI))) (tI : PySem.W.typeIn X.K (.ref fI) = some (.type "function"))
    (F1 : FnOk X.prog X.w X.K X.mg X.base CX k fI fd ps sp) (hr : Room (k + 1) X.A) (hb : Binds X.K fd ps []) (hx : Passes CX X (fun _ _ _ => False)) (hg : Gl X x) (hm : X.mg x = some (.ref C)) (ha : PA X (e :: es) ta) (hnn : ∀ vs H Q E, sp vs H Q E → sp vs H (fun v H' => v = .non ∧ Q v H') E)
    (hdb : (x == ("__debug__" : Str)) = false := by decide) (he : starEach (e :: es) X.env = (false, eval e X.env) :: starEach es X.env := by rfl) (hpl : (backTo pos (starEach es X.env)).any (·.1) = false := by rfl) :
    PE X (.Call (.Name x p) (e :: es) [] pos) (tMkV C sp ta) := by
  refine ⟨fun pins s σ H Q I h => ?_⟩
  obtain ⟨nm, q, N, bs, bm, sn, sub, ab, col, dd, k0, k1, k2, k3, k5, hC, hbm⟩ := T.cls
  refine wpAny_Call_Name_kw (ld_glob I hg hm ?_ hdb)
  refine PySem.W.callWith_K (h₀ := X.base) I.ok.mod.kin T.kC (thn (ha.run pos pins s σ H _ I h) fun us s1 ⟨vs, H1, I1, r1, hz, q1⟩ => ⟨I1.kIn, ?_⟩) he hpl
  show wpAny _ _ (call (.ref C) us) _ _ _
  obtain ⟨hp, g, dr, tk, os⟩ := s1
  have hsz : hp.objs.size ≤ hp.objs.size + 1 := Nat.le_succ _
  have hn : H1 (hp.objs.size + 1) = none := I1.hok.fresh hsz
  have hq := hnn _ _ _ _ (q1 (hp.objs.size + 1) hn)
  have kk : ∀ b o, hp.get? b = some o → ((hp.push (PySem.W.kdv_tup us)).push (PySem.HandSPX.excO C hp.objs.size)).get? b = some o := fun b o e => Heap.get?_push_of_some _ (Heap.get?_push_of_some _ e)
  have hget : ((hp.push (PySem.W.kdv_tup us)).push (PySem.HandSPX.excO C hp.objs.size)).get? (hp.objs.size + 1) = some (PySem.HandSPX.excO C hp.objs.size) := by heap_get
  have I2 : Inv X pins σ (upd H1 (hp.objs.size + 1) (exo (hp.objs.size + 1) C none)) ⟨(hp.push (PySem.W.kdv_tup us)).push (PySem.HandSPX.excO C hp.objs.size), g, dr, tk, os⟩ :=
    I1.laid (t' := tk) (a := hp.objs.size + 1) (o := exo (hp.objs.size + 1) C none) (h' := (hp.push (PySem.W.kdv_tup us)).push (PySem.HandSPX.excO C hp.objs.size)) kk hsz (exo_ok hget)
  have r2 : Vals (V.ref (hp.objs.size + 1) :: vs) (Value.ref (hp.objs.size + 1) :: us) := .cons rfl r1
  have hl : (Value.ref (hp.objs.size + 1) :: us ++ []).length = ps.length := by
    rw [List.append_nil]
    have e := r2.length
    rw [F1.len _ _ _ _ hq] at e
    exact e.symm
  have hus : us.length ≤ sizeLine := by
    rw [← Paired.length r1, sizeLine_eq]
    omega
  have hbb := hb _ (Value.ref (hp.objs.size + 1) :: us) I2.kIn hl
  rw [List.append_nil] at hbb
  refine wpAny_call (PySem.HandSPX.call_own F.excBase_ValueError (fun Y => PySem.HandSPX.refsVE_contains Y bm hbm) (I1.kIn _ _ hC) (PySem.W.looks_findIn I1.kIn iC) (fun self => PySem.W.bind_fn I1.kIn self tI) hus
    (codeAny_mono (F1.run _ X.stack _ _ ⟨Value.ref (hp.objs.size + 1) :: us, []⟩ (Value.ref (hp.objs.size + 1) :: us) _ _ (fun _ _ _ => False) (hr.make C us []) (I2.env0.make C us []) hbb r2 hq) fun r s' hq' => ?_))
  cases r with
  | error er => exact hx pins σ _ _ er s' I2 hq'
  | ok fl =>
    cases fl with
    | ret u =>
      obtain ⟨v, H2, os2, bare2, un2, hok2, rv, ev, q2⟩ := hq'
      subst ev
      obtain ⟨h2, g2, d2, t2, os'⟩ := s'
      exact ⟨rv, .ref (hp.objs.size + 1), H2, I2.call' (ch := []) os2 un2 hok2 bare2 (fun b z => absurd z (by simp)), rfl, q2⟩
    | next => exact False.elim hq'
    | brk => exact False.elim hq'
    | cont => exact False.elim hq'
/-- C(), C without an __init__ of its own -/
theorem pe_exc0V {C : Addr} {bmB : List Value} {B newId initId : String} {x : Str} (F : ExcBaseFacts B newId initId bmB) (q : PySem.W.excIn X.K C bmB newId = true) (gC : X.mg x = some (.ref C)) (kC : PySem.W.keepIn X.K (.ref C) = true) (hg : Gl X x)
    (hdb : (x == ("__debug__" : Str)) = false := by decide) :
    PE X (.Call (.Name x p) [] [] pos) (fun σ H Q => ∀ a, H a = none → Q (.ref a) (upd H a (exo a C none))) := by
  refine ⟨fun pins s σ H Q I h => ?_⟩
  refine wpAny_Call_Name_kw (ld_glob I hg gC ?_ hdb)
  refine PySem.W.callWith_K0 I.kIn kC ?_
  show wpAny _ _ (call (.ref C) []) _ _ _
  obtain ⟨hp, g, dr, tk, os⟩ := s
  obtain ⟨bm, N, nm, qn, bs, hdct, sn, sub, ab, col, dd, k0, k1, k2, k3, k5, mN, hC, hN, hni, T⟩ := exc_obj I.kIn q
  refine wpAny_call_exc_subT F T hC hN hni (fun h' a hm => ?_) (Nat.zero_le _)
  have hn : H a = none := I.hok.gone hm.new
  obtain ⟨t, ht, _, _⟩ := hm.there
  exact ⟨.ref a, upd H a (exo a C none), inv_laidN I hm.keeps hm.new hn (exo_ok ht), rfl, h a hn⟩

/-! ### their fields -/
def tXfV (f : Str) (te : TE) (K : PySem.W.Frag) : TE := fun σ H Q => te σ H fun x H1 => ∃ (a C dx : Addr) (fs : List (Str × V)) (v : V), x = .ref a ∧ XfC K C ∧ PySem.W.findIn K (.ref C) f = some none ∧ H1 a = some (exo a C (some dx)) ∧ H1 dx = some (exd dx fs) ∧ fs.lookup f = some v ∧ Q v H1
theorem pe_xfV {te : TE} {n : Str} (he : PE X e te) (hb : attributeBase e n X.env (eval e X.env) = eval e X.env := by rfl) : PE X (.Attribute e n pos) (tXfV n te X.K) := by
  refine ⟨fun pins s σ H Q I h => ?_⟩
  refine attr_of hb (thn (he.run pins s σ H _ I h) fun u s1 hh => ?_)
  obtain ⟨x, H1, I1, rx, a, C, dx, fs, v, ex, T, hno, ea, ed, l, q⟩ := hh
  subst ex
  obtain rfl : u = Value.ref a := rx
  obtain ⟨t1, ho⟩ := exo_at I1.hok ea
  obtain ⟨mA, hns, hr⟩ := exd_at I1.hok ed
  obtain ⟨od, hod, hl⟩ := lookIn_ns hns
  obtain ⟨u, hu, ru⟩ := RelO.some_of (v := v) (o := mA n) (by rw [← l]; exact hr n)
  have J : PySem.W.InstAt s1.heap a _ C (some od) := ⟨ho, rfl, rfl, hod⟩
  exact HandSPX.exc_get I1.kIn J T.ga T.gg T.exC (PySem.W.findObj_own T.hdC hno rfl (by rw [hl, hu])) (handed_of ru) ⟨v, H1, I1.tok _, ru, q⟩

/-! ### isinstance of such -/
def rIsV (K : PySem.W.Frag) : List V → Hp → VK → Prop := fun xs H Q => ∃ (a D : Addr) (d : Option Addr) (c : V) (cv : Value) (b : Bool), xs = [.ref a, c] ∧ ExcC K D ∧ H a = some (exo a D d) ∧ (∀ dx, d = some dx → ∃ fs, H dx = some (exd dx fs)) ∧ (∀ u, RelV c u → u = cv) ∧ PySem.W.kitOne K (.ref D) cv = some b ∧ Q (.bl b) H
theorem clsE {K : PySem.W.Frag} {D : Addr} (h : PySem.W.hasDictIn K D = true) : (PySem.W.clsIn K D).isSome = true := by
  obtain ⟨cd, hc, _⟩ := PySem.W.any_some h
  rw [hc]; rfl
theorem call_isV : CallR X (.builtin "isinstance") (rIsV X.K) := by
  intro pins s σ H xs us Q I r h
  obtain ⟨a, D, d, c, cv, b, rfl, C, ea, ed, hcv, e, q⟩ := h
  cases r with
  | cons rx rr =>
    cases rr with
    | cons rt rr =>
      cases rr
      cases rx
      have ec := hcv _ rt
      subst ec
      obtain ⟨t1, ho⟩ := exo_at I.hok ea
      cases d with
      | none =>
        have J : PySem.W.InstAt s.heap a _ D none := ⟨ho, rfl, rfl, trivial⟩
        exact PySem.W.kia_one (PySem.W.kitx_exc (clsE C.hd) C.hg C.hk C.hs C.ha C.hn C.ht C.hm) I.kIn J e (fun z => nomatch z) fun tk => ⟨.bl b, H, I.kept (t' := tk) fun _ _ z => z, rfl, q⟩
      | some dx =>
        obtain ⟨fs, e2⟩ := ed dx rfl
        obtain ⟨mA, hns, hr⟩ := exd_at I.hok e2
        obtain ⟨od, hod, hl⟩ := lookIn_ns hns
        have J : PySem.W.InstAt s.heap a _ D (some od) := ⟨ho, rfl, rfl, hod⟩
        exact PySem.W.kia_one (PySem.W.kitx_exc (clsE C.hd) C.hg C.hk C.hs C.ha C.hn C.ht C.hm) I.kIn J e (fun z => nomatch z) fun tk => ⟨.bl b, H, I.kept (t' := tk) fun _ _ z => z, rfl, q⟩
end
end VL

namespace VL
open PySem PySem.Spec L2 PyProof.Rows

/-! ### what is asked of an error class, as tests -/
def excB (K : PySem.W.Frag) (C : Addr) : Bool :=
  decide (PySem.W.findIn K (.ref C) "__getattribute__" = some (some (.builtin "BaseException.__getattribute__"))) && (decide (PySem.W.findIn K (.ref C) "__getattr__" = some none) &&
  (decide (PySem.W.subIn K (.ref C) (.type "BaseException") = some true) && (PySem.W.hasDictIn K C && (decide (PySem.W.findIn K (.ref C) "__class__" = some (some (.builtin "object.__class__"))) &&
  (decide (PySem.W.specialIn K (.builtin "object.__class__") "__get__" = some (some (.builtin "getset_descriptor.__get__"))) && (decide (PySem.W.takesIn K (.builtin "object.__class__") = some true) && decide (PySem.W.mroIn K C (.type "object") = some true)))))))
theorem excB_ok {K : PySem.W.Frag} {C : Addr} (h : excB K C = true) : ExcC K C := by
  obtain ⟨h1, h⟩ := Bool.and_eq_true_iff.mp h
  obtain ⟨h2, h⟩ := Bool.and_eq_true_iff.mp h
  obtain ⟨h3, h⟩ := Bool.and_eq_true_iff.mp h
  obtain ⟨h4, h⟩ := Bool.and_eq_true_iff.mp h
  obtain ⟨h5, h⟩ := Bool.and_eq_true_iff.mp h
  obtain ⟨h6, h⟩ := Bool.and_eq_true_iff.mp h
  obtain ⟨h7, h8⟩ := Bool.and_eq_true_iff.mp h
  exact ⟨of_decide_eq_true h1, of_decide_eq_true h2, of_decide_eq_true h3, h4, of_decide_eq_true h5, of_decide_eq_true h6, of_decide_eq_true h7, of_decide_eq_true h8⟩
theorem excC_xf {K : PySem.W.Frag} {C : Addr} (h : ExcC K C) : XfC K C := ⟨h.hg, h.hk, h.hs, h.hd⟩
def oexB0 (K : PySem.W.Frag) (C : Addr) : Bool := match K.lookup C with
  | some ⟨.type "type", _, .cls cd, sl⟩ => (match cd.mro, sl.toList with
    | .ref C' :: bm, [_, _, _, _, some (.builtin n), _] => C' == C && (n == "ValueError.__new__" && (cd.hasDict && (!cd.hasDel && PySem.HandSPX.refsVE bm)))
    | _, _ => false)
  | _ => false
theorem oexB0_ok {K : PySem.W.Frag} {C : Addr} (h : oexB0 K C = true) : ∃ nm q N bs bm sn sub ab col dd k0 k1 k2 k3 k5, K.lookup C = some (excClassObj nm q C N bs bm true sn sub ab col dd k0 k1 k2 k3 k5 "ValueError.__new__") ∧ PySem.HandSPX.refsVE bm = true := by
  unfold oexB0 at h
  split at h
  · rename_i dd cd sl e
    obtain ⟨nm, bs, mro, ns, qn, hd, sn, sb, ab, col, del⟩ := cd
    dsimp only at h
    split at h
    · rename_i l2 C' bm k0 k1 k2 k3 n k5 hs
      obtain ⟨h1, h⟩ := Bool.and_eq_true_iff.mp h
      obtain ⟨h2, h⟩ := Bool.and_eq_true_iff.mp h
      obtain ⟨h3, h⟩ := Bool.and_eq_true_iff.mp h
      obtain ⟨h4, h5⟩ := Bool.and_eq_true_iff.mp h
      have e1 := eq_of_beq h1
      have e2 := eq_of_beq h2
      subst e1 e2 h3
      have e4 : del = false := by cases del <;> first | rfl | cases h4
      subst e4
      have es : sl = #[k0, k1, k2, k3, some (.builtin "ValueError.__new__"), k5] := by
        cases sl; exact congrArg Array.mk hs
      subst es
      exact ⟨_, _, _, _, _, _, _, _, _, _, _, _, _, _, _, e, h5⟩
    · cases h
  · cases h
def oexB (K : PySem.W.Frag) (C : Addr) : Bool := oexB0 K C && (decide (PySem.W.findIn K (.ref C) "__setattr__" = some (some (.builtin "object.__setattr__"))) && (decide (PySem.W.typeIn K (.ref C) = some (.type "type")) && (PySem.W.keepIn K (.ref C) && excB K C)))
theorem oexB_ok {K : PySem.W.Frag} {C : Addr} (h : oexB K C = true) : OexC K C ∧ ExcC K C := by
  obtain ⟨h1, h⟩ := Bool.and_eq_true_iff.mp h
  obtain ⟨h2, h⟩ := Bool.and_eq_true_iff.mp h
  obtain ⟨h3, h⟩ := Bool.and_eq_true_iff.mp h
  obtain ⟨h4, h5⟩ := Bool.and_eq_true_iff.mp h
  have E := excB_ok h5
  exact ⟨⟨oexB0_ok h1, of_decide_eq_true h2, E.hs, of_decide_eq_true h3, h4⟩, E⟩
/-- fs: no attribute of the class itself -/
def noAttB (K : PySem.W.Frag) (C : Addr) (fs : List Str) : Bool := fs.all fun f => decide (PySem.W.findIn K (.ref C) f = some none)
theorem noAttB_ok {K : PySem.W.Frag} {C : Addr} {fs : List Str} (h : noAttB K C fs = true) : ∀ f ∈ fs, PySem.W.findIn K (.ref C) f = some none := fun f hf => of_decide_eq_true (List.all_eq_true.mp h f hf)
abbrev clOf (Cs : List Addr) : ClsT := { cls := fun c => Cs[c]? }
def kitRow (K : PySem.W.Frag) (Cs : List Addr) (cv : Value) (row : List (Nat × Bool)) : Bool := row.all fun p => match Cs[p.1]? with
  | some C => decide (PySem.W.kitOne K (.ref C) cv = some p.2) && excB K C
  | none => false
def KitRow (K : PySem.W.Frag) (Cl : ClsT) (cv : Value) (row : List (Nat × Bool)) : Prop := ∀ c b, row.lookup c = some b → ∃ C, Cl c = some C ∧ ExcC K C ∧ PySem.W.kitOne K (.ref C) cv = some b
theorem mem_of_lookup {β : Type _} {c : Nat} {b : β} : ∀ {row : List (Nat × β)}, row.lookup c = some b → (c, b) ∈ row
  | [], h => by cases h
  | (k, v) :: r, h => by
    rw [List.lookup] at h
    split at h
    · rename_i e
      have := eq_of_beq e
      subst this
      cases h
      exact List.mem_cons_self
    · exact List.mem_cons_of_mem _ (mem_of_lookup h)
theorem kitRow_ok {K : PySem.W.Frag} {Cs : List Addr} {cv : Value} {row : List (Nat × Bool)} (h : kitRow K Cs cv row = true) : KitRow K (clOf Cs) cv row := fun c b e => by
  have := List.all_eq_true.mp h (c, b) (mem_of_lookup e)
  dsimp only at this
  split at this
  · rename_i C eC
    obtain ⟨h1, h2⟩ := Bool.and_eq_true_iff.mp this
    exact ⟨C, eC, excB_ok h2, of_decide_eq_true h1⟩
  · cases this

/-! ### __init__ of an error: self.f = f, .. -/
def spI (K : PySem.W.Frag) (C : Addr) (fs : List Str) : Sp := fun vs H Q _ => ∃ (a : Addr) (ys : List V), vs = .ref a :: ys ∧ ys.length = fs.length ∧ H a = some (exo a C none) ∧
  ∀ dx, H dx = none → dx ≠ a → Q .non (upd (upd H dx (exd dx (fs.zip ys).reverse)) a (exo a C (some dx)))
section
variable {P : Program} {w : World} {K : PySem.W.Frag} {mg : Str → Option Value} {base : Heap} {Cl : ClsT} {C f : Addr} {fd : FuncData} {st : Stmt} {x qual : Str}
theorem fn_init1 {f1 : Str} {st1 : Stmt} (F : Fun K x qual st f fd) (S : FnScope ["self", f1] ["self", f1] (defScope st)) (hd : defBody st = [st1]) (T : OexC K C) (h1 : PySem.W.findIn K (.ref C) f1 = some none)
    (b1 : ∀ (cdv : Value) (A : Around) (outer : List Env) (s : Shared) (H : Hp) (E : XK), PS (bodyCx P w K mg base ["self", f1] qual st f cdv A outer s H E) st1 (tOst K f1 (tVar 0) (tVar 1))) :
    FnOk P w K mg base (L2.CX P w) 1 f fd ["self", f1] (spI K C [f1]) := by
  refine F.okX S (fun vs H Q E h => ?_) (fun cdv A outer s H vs Q E hr h => ?_)
  · obtain ⟨a, ys, rfl, hl, _⟩ := h
    rw [List.length_cons, hl]; rfl
  · obtain ⟨a, ys, rfl, hl, ea, h⟩ := h
    match ys, hl with
    | [y], _ =>
      rw [hd]
      refine ⟨_, pss_one (b1 cdv A outer s H E), ?_⟩
      refine ⟨y, rfl, .ref a, rfl, a, C, rfl, T, h1, .inl ⟨ea, fun dx n ne => ?_⟩⟩
      exact h dx n ne
theorem fn_init2 {f1 f2 : Str} {st1 st2 : Stmt} (F : Fun K x qual st f fd) (S : FnScope ["self", f1, f2] ["self", f1, f2] (defScope st)) (hd : defBody st = [st1, st2]) (T : OexC K C) (h1 : PySem.W.findIn K (.ref C) f1 = some none) (h2 : PySem.W.findIn K (.ref C) f2 = some none)
    (b1 : ∀ (cdv : Value) (A : Around) (outer : List Env) (s : Shared) (H : Hp) (E : XK), PS (bodyCx P w K mg base ["self", f1, f2] qual st f cdv A outer s H E) st1 (tOst K f1 (tVar 0) (tVar 1)))
    (b2 : ∀ (cdv : Value) (A : Around) (outer : List Env) (s : Shared) (H : Hp) (E : XK), PS (bodyCx P w K mg base ["self", f1, f2] qual st f cdv A outer s H E) st2 (tOst K f2 (tVar 0) (tVar 2))) :
    FnOk P w K mg base (L2.CX P w) 1 f fd ["self", f1, f2] (spI K C [f1, f2]) := by
  refine F.okX S (fun vs H Q E h => ?_) (fun cdv A outer s H vs Q E hr h => ?_)
  · obtain ⟨a, ys, rfl, hl, _⟩ := h
    rw [List.length_cons, hl]; rfl
  · obtain ⟨a, ys, rfl, hl, ea, h⟩ := h
    match ys, hl with
    | [y, z], _ =>
      rw [hd]
      refine ⟨_, pss_cons (b1 cdv A outer s H E) (pss_one (b2 cdv A outer s H E)), ?_⟩
      refine ⟨y, rfl, .ref a, rfl, a, C, rfl, T, h1, .inl ⟨ea, fun dx n ne => ?_⟩⟩
      refine ⟨z, rfl, .ref a, rfl, a, C, rfl, T, h2, .inr ⟨dx, _, upd_same, by rw [upd_ne ne]; exact upd_same, Nat.le_trans (Nat.le_refl 1) (by decide), ?_⟩⟩
      have e : upd (upd (upd H dx (exd dx [(f1, y)])) a (exo a C (some dx))) dx (exd dx [(f2, z), (f1, y)]) = upd (upd H dx (exd dx [(f2, z), (f1, y)])) a (exo a C (some dx)) := by
        funext b
        by_cases hb : b = dx
        · subst hb; rw [upd_same, upd_ne ne, upd_same]
        · rw [upd_ne hb]
          by_cases hba : b = a
          · subst hba; rw [upd_same, upd_same]
          · rw [upd_ne hba, upd_ne hba, upd_ne hb, upd_ne hb]
      rw [e]
      exact h dx n ne
end
/-- an error class with an __init__ of its own -/
def ErrI (P : Program) (w : World) (K : PySem.W.Frag) (mg : Str → Option Value) (base : Heap) (Cl : ClsT) (c : Nat) (x : Str) (fs : List Str) : Prop :=
  ∃ C fI fd, Cl c = some C ∧ mg x = some (.ref C) ∧ OexC K C ∧ ExcC K C ∧ PySem.W.findIn K (.ref C) "__init__" = some (some (.ref fI)) ∧ PySem.W.typeIn K (.ref fI) = some (.type "function") ∧ Binds K fd ("self" :: fs) [] ∧
    (∀ f ∈ fs, PySem.W.findIn K (.ref C) f = some none) ∧ FnOk P w K mg base (L2.CX P w) 1 fI fd ("self" :: fs) (spI K C fs)
/-- an error class without -/
def Err0 (K : PySem.W.Frag) (mg : Str → Option Value) (Cl : ClsT) (c : Nat) (x : Str) : Prop :=
  ∃ C, Cl c = some C ∧ mg x = some (.ref C) ∧ PySem.W.keepIn K (.ref C) = true ∧ PySem.W.excIn K C [.type "ValueError", .type "Exception", .type "BaseException", .type "object"] "ValueError.__new__" = true

/-! ### their rules -/
section
variable {X : Cx} {Cl : ClsT} {p pos : Pos} {e : Expr} {es : List Expr}
def vErr (c : Nat) (fs : List Str) (fa : VA) : VE := fun env => match fa env with
  | some rs => if rs.length = fs.length ∧ rs.length ≤ 900 ∧ noMutL (dsOf rs) = true then some ⟨.exc c (fs.zip (dsOf rs)).reverse, 0, []⟩ else none
  | none => none
theorem repF_zip {K : PySem.W.Frag} {H : Hp} {F : ASet} : ∀ {fs : List Str} {vs : List V} {ds : List D}, Reps K Cl H F vs ds → RepF K Cl H F (fs.zip vs) (fs.zip ds)
  | [], _, _, _ => .nil
  | _ :: _, _, _, .nil => .nil
  | f :: fs, _, _, .cons a b => .cons a (repF_zip b)
theorem repF_append {K : PySem.W.Frag} {H : Hp} {F : ASet} : ∀ {xs ys : List (Str × V)} {ds es : List (Str × D)}, RepF K Cl H F xs ds → RepF K Cl H F ys es → RepF K Cl H F (xs ++ ys) (ds ++ es)
  | _, _, _, _, .nil, s => s
  | _, _, _, _, .cons a b, s => .cons a (repF_append b s)
theorem repF_reverse {K : PySem.W.Frag} {H : Hp} {F : ASet} : ∀ {xs : List (Str × V)} {ds : List (Str × D)}, RepF K Cl H F xs ds → RepF K Cl H F xs.reverse ds.reverse
  | _, _, .nil => .nil
  | _, _, .cons a b => by rw [List.reverse_cons, List.reverse_cons]; exact repF_append (repF_reverse b) (.cons a .nil)
theorem reps_pure {K : PySem.W.Frag} {H : Hp} {F F' : ASet} {vs : List V} {ds : List D} (r : Reps K Cl H F vs ds) (n : noMutL ds = true) : Reps K Cl H F' vs ds := r.pure n
theorem ve_err {c : Nat} {x : Str} {fs : List Str} {fa : VA} (E : ErrI X.prog X.w X.K X.mg X.base Cl c x fs) (hr : Room 2 X.A) (ha : VAok X Cl (e :: es) fa) (hg : Gl X x := by rfl)
    (hdb : (x == ("__debug__" : Str)) = false := by decide) (he : starEach (e :: es) X.env = (false, eval e X.env) :: starEach es X.env := by rfl) (hpl : (backTo pos (starEach es X.env)).any (·.1) = false := by rfl) :
    VEok X Cl (.Call (.Name x p) (e :: es) [] pos) (vErr c fs fa) := by
  obtain ⟨C, fI, fd, hC, hm, T, EC, iC, tI, hb, hno, F⟩ := E
  obtain ⟨ta, pa, qa⟩ := ha
  refine ⟨_, pe_oexV T iC tI F hr hb passL hg hm pa (fun vs H Q E h => ?_) hdb he hpl, fun H0 G σ H env Fs ow r Q S er kk => ?_⟩
  · obtain ⟨a, ys, h1, h2, h3, h4⟩ := h
    exact ⟨a, ys, h1, h2, h3, fun dx n ne => ⟨rfl, h4 dx n ne⟩⟩
  unfold vErr at er
  split at er <;> (first | (cases er; done) | skip)
  rename_i rs ers
  split at er <;> (first | (cases er; done) | skip)
  rename_i hc
  obtain ⟨c1, c2, c3⟩ := hc
  cases er
  refine qa _ _ _ _ _ _ _ _ _ S ers fun vs H1 s1 w1 => ?_
  obtain ⟨F1, r1, t1, f1⟩ := w1.reps
  have hl : vs.length = rs.length := w1.length
  refine ⟨by omega, fun a ha => ⟨a, vs, rfl, by omega, upd_same, fun dx hd ne => ?_⟩⟩
  have hd1 : H1 dx = none := by rw [upd_ne ne] at hd; exact hd
  have eq : ∀ o1 o2 o3, upd (upd (upd H1 a o1) dx o2) a o3 = upd (upd H1 dx o2) a o3 := fun o1 o2 o3 => by
    funext b
    by_cases hb : b = a
    · subst hb; rw [upd_same, upd_same]
    · rw [upd_ne hb, upd_ne hb]
      by_cases hbd : b = dx
      · subst hbd; rw [upd_same, upd_same]
      · rw [upd_ne hbd, upd_ne hbd, upd_ne hb]
  rw [eq]
  have s2 : Same H1 (upd (upd H1 dx (exd dx (fs.zip vs).reverse)) a (exo a C (some dx))) := fun b o q => by
    rw [upd_ne (ne_of_none q ha), upd_ne (ne_of_none q hd1)]; exact q
  refine kk _ _ (s1.trans s2) ⟨fun b => b = a ∨ b = dx, [], ?_, fun b hb => ?_, fun b hb => .inl (s1.free (hb.elim (fun z => z ▸ ha) fun z => z ▸ hd1)), .zero, fun _ z => by cases z⟩
  · refine .exc (dx := dx) upd_same (by rw [upd_ne ne]; exact upd_same) (.inl rfl) (.inr rfl) hC ?_
    exact repF_reverse (repF_zip ((reps_pure r1 c3).same s2))
  · rcases hb with rfl | rfl
    · rw [upd_same]; exact fun z => by cases z
    · rw [upd_ne ne, upd_same]; exact fun z => by cases z
def vErr0 (c : Nat) : VE := fun _ => some ⟨.exc c [], 0, []⟩
theorem ve_err0 {c : Nat} {x : Str} (E : Err0 X.K X.mg Cl c x) (hg : Gl X x := by rfl) (hdb : (x == ("__debug__" : Str)) = false := by decide) : VEok X Cl (.Call (.Name x p) [] [] pos) (vErr0 c) := by
  obtain ⟨C, hC, hm, kC, q⟩ := E
  refine ⟨_, pe_exc0V F.excBase_ValueError q hm kC hg hdb, fun H0 G σ H env Fs ow r Q S er kk => ?_⟩
  cases er
  intro a ha
  have s2 : Same H (upd H a (exo a C none)) := fun b o q => by rw [upd_ne (ne_of_none q ha)]; exact q
  refine kk _ _ s2 ⟨fun b => b = a, [], .exc0 upd_same rfl hC, fun b hb => ?_, fun b hb => .inl (hb ▸ ha), .zero, fun _ z => by cases z⟩
  subst hb; rw [upd_same]; exact fun z => by cases z
/-- e.n of an error whose class is one of cs -/
def vXf (cs : List Nat) (n : Str) (f : VE) : VE := fun env => match f env with
  | some x => match x.d with
    | .exc c fs => if cs.contains c = true then (match fs.lookup n with
        | some d => if noMut d = true then some ⟨d, 2, []⟩ else none
        | none => none) else none
    | _ => none
  | none => none
theorem repF_lookup {K : PySem.W.Frag} {H : Hp} {F : ASet} {n : Str} {d : D} : ∀ {xs : List (Str × V)} {ds : List (Str × D)}, RepF K Cl H F xs ds → ds.lookup n = some d → ∃ v, xs.lookup n = some v ∧ Rep K Cl H F v d
  | _, _, .nil, e => by cases e
  | _, _, @RepF.cons _ _ _ _ k v d' vs ds' a b, e => by
    rw [List.lookup] at e ⊢
    split at e
    · cases e; exact ⟨_, rfl, a⟩
    · exact repF_lookup b e
theorem ve_xf {n : Str} {cs : List Nat} {f : VE} (nh : ∀ a, Cl.han a = none) (hcs : ∀ c ∈ cs, ∃ C, Cl c = some C ∧ ExcC X.K C ∧ PySem.W.findIn X.K (.ref C) n = some none) (he : VEok X Cl e f) (hb : attributeBase e n X.env (eval e X.env) = eval e X.env := by rfl) : VEok X Cl (.Attribute e n pos) (vXf cs n f) := by
  obtain ⟨te, pe, qe⟩ := he
  refine ⟨_, pe_xfV pe hb, fun H0 G σ H env Fs ow rr Q S e k => ?_⟩
  unfold vXf at e
  split at e <;> (first | (cases e; done) | skip)
  rename_i x ex
  refine qe _ _ _ _ _ _ _ _ _ S ex fun v H1 s1 w1 => ?_
  obtain ⟨F, r1⟩ := w1.rep
  split at e <;> (first | (cases e; done) | skip)
  rename_i c fs ed
  split at e <;> (first | (cases e; done) | skip)
  rename_i hc
  split at e <;> (first | (cases e; done) | skip)
  rename_i d el
  split at e <;> (first | (cases e; done) | skip)
  rename_i hn
  cases e
  obtain ⟨C, hC, EC, hno⟩ := hcs c (by simpa using hc)
  rw [ed] at r1
  cases r1 with
  | exh0 h => cases el
  | exh h hd r => rw [nh] at h; cases h
  | exc0 h f c' => cases el
  | exc h hd f fd c' r =>
    rw [hC] at c'
    cases c'
    obtain ⟨u, hu, ru⟩ := repF_lookup r el
    exact ⟨_, _, _, _, u, rfl, excC_xf EC, hno, h, hd, hu, k _ _ s1 (.pureV (ru.pure hn) hn)⟩
/-- isinstance(e, T) -/
def gIsE (row : List (Nat × Bool)) : Rv → Option Rv := fun x => match x.d with
  | .exc c _ => (match row.lookup c with
    | some b => some ⟨.bl b, 2, []⟩
    | none => none)
  | _ => none
theorem isE_val (nh : ∀ a, Cl.han a = none) {K : PySem.W.Frag} {H : Hp} {F : ASet} {v : V} {c : Nat} {fs : List (Str × D)} {C : Addr} (h : Rep K Cl H F v (.exc c fs)) (hC : Cl c = some C) : ∃ a d, v = .ref a ∧ H a = some (exo a C d) ∧ ∀ dx, d = some dx → ∃ fs, H dx = some (exd dx fs) := by
  cases h with
  | exh0 h => rw [nh] at h; cases h
  | exh h hd r => rw [nh] at h; cases h
  | exc0 h f c' => rw [hC] at c'; cases c'; exact ⟨_, none, rfl, h, fun _ z => by cases z⟩
  | exc h hd f fd c' r => rw [hC] at c'; cases c'; exact ⟨_, some _, rfl, h, fun _ z => by cases z; exact ⟨_, hd⟩⟩
theorem ve_isE {T : Str} {D : Addr} {row : List (Nat × Bool)} {a : Expr} {p2 : Pos} {f : VE} (nh : ∀ a, Cl.han a = none) (hm : X.mg "isinstance" = none) (hmT : X.mg T = some (.ref D)) (hR : KitRow X.K Cl (.ref D) row) (ha : VEok X Cl a f) (hg : Gl X "isinstance" := by rfl) (hgT : Gl X T := by rfl)
    (hdT : (T == ("__debug__" : Str)) = false := by decide)
    (hs : starEach [a, .Name T p2] X.env = (false, eval a X.env) :: starEach [.Name T p2] X.env := by rfl) (hs2 : starEach [.Name T p2] X.env = (false, eval (.Name T p2) X.env) :: starEach [] X.env := by rfl) (hpl : (backTo pos (starEach [.Name T p2] X.env)).any (·.1) = false := by rfl) :
    VEok X Cl (.Call (.Name "isinstance" p) [a, .Name T p2] [] pos) (v1 (gIsE row) f) := by
  obtain ⟨ta, pa, qa⟩ := ha
  refine ⟨_, pe_callB call_isV hg hm (by decide +kernel) (pa_cons pa (pa_cons (pe_glob (v := .ref D) hgT hmT rfl hdT) pa_nil hs2) hs) (by decide) (by decide) hs hpl, fun H0 G σ H env Fs ow r Q S e k => ?_⟩
  unfold v1 at e
  split at e <;> (first | (cases e; done) | skip)
  rename_i x ex
  unfold gIsE at e
  split at e <;> (first | (cases e; done) | skip)
  rename_i c fs ed
  split at e <;> (first | (cases e; done) | skip)
  rename_i b eb
  cases e
  refine qa _ _ _ _ _ _ _ _ _ S ex fun v H1 s1 w1 => ?_
  obtain ⟨F, rr⟩ := w1.rep
  rw [ed] at rr
  obtain ⟨C, hC, EC, hk⟩ := hR c b eb
  obtain ⟨a', d, rfl, ea, hx⟩ := isE_val nh rr hC
  exact ⟨a', C, d, .ref D, .ref D, b, rfl, EC, ea, hx, fun u ru => ru, hk, k _ _ s1 (.pureV (.bl _) rfl)⟩
theorem ve_isEB {T : Str} {tn : String} {row : List (Nat × Bool)} {a : Expr} {p2 : Pos} {f : VE} (nh : ∀ a, Cl.han a = none) (hm : X.mg "isinstance" = none) (hmT : X.mg T = none) (hR : KitRow X.K Cl (.type tn) row) (ha : VEok X Cl a f) (hT : bootBuiltins T = some (.type tn) := by decide +kernel) (hg : Gl X "isinstance" := by rfl) (hgT : Gl X T := by rfl)
    (hnT : T ≠ "__name__" := by decide) (hdT : (T == ("__debug__" : Str)) = false := by decide)
    (hs : starEach [a, .Name T p2] X.env = (false, eval a X.env) :: starEach [.Name T p2] X.env := by rfl) (hs2 : starEach [.Name T p2] X.env = (false, eval (.Name T p2) X.env) :: starEach [] X.env := by rfl) (hpl : (backTo pos (starEach [.Name T p2] X.env)).any (·.1) = false := by rfl) :
    VEok X Cl (.Call (.Name "isinstance" p) [a, .Name T p2] [] pos) (v1 (gIsE row) f) := by
  obtain ⟨ta, pa, qa⟩ := ha
  refine ⟨_, pe_callB call_isV hg hm (by decide +kernel) (pa_cons pa (pa_cons (pe_bltn (v := .ty tn) hgT hmT hT rfl hnT hdT) pa_nil hs2) hs) (by decide) (by decide) hs hpl, fun H0 G σ H env Fs ow r Q S e k => ?_⟩
  unfold v1 at e
  split at e <;> (first | (cases e; done) | skip)
  rename_i x ex
  unfold gIsE at e
  split at e <;> (first | (cases e; done) | skip)
  rename_i c fs ed
  split at e <;> (first | (cases e; done) | skip)
  rename_i b eb
  cases e
  refine qa _ _ _ _ _ _ _ _ _ S ex fun v H1 s1 w1 => ?_
  obtain ⟨F, rr⟩ := w1.rep
  rw [ed] at rr
  obtain ⟨C, hC, EC, hk⟩ := hR c b eb
  obtain ⟨a', d, rfl, ea, hx⟩ := isE_val nh rr hC
  exact ⟨a', C, d, .ty tn, .type tn, b, rfl, EC, ea, hx, fun u ru => ru, hk, k _ _ s1 (.pureV (.bl _) rfl)⟩
end
end VL

namespace VL
open PySem PySem.Spec L2 PyProof.Rows

section
variable {P : Program} {w : World} {K : PySem.W.Frag} {mg : Str → Option Value} {base : Heap} {Cl : ClsT} {f : Addr} {fd : FuncData} {ps : List Str}
theorem fn_zero {CX : CXT} {k n : Nat} {cf : CF} (hn : ps.length = n) (h : ∀ ds, cf ds = .no) : FnOk P w K mg base CX k f fd ps (spV K Cl n cf) :=
  ⟨fun vs H Q E ⟨ds, G, h1, _⟩ => by rw [h1, hn], fun A outer s H args us vs Q E hr he hb hv ⟨ds, G, h1, r, t, z⟩ => by rw [h ds] at z; exact z.elim⟩
theorem fnH_mk {x : Str} {k n : Nat} {cf : CF} (a : mg x = some (.ref f)) (kf : PySem.W.keepIn K (.ref f) = true) (b : Binds K fd ps []) (F : FnOk P w K mg base (L2.CX P w) k f fd ps (spV K Cl n cf)) : FnH P w K mg base Cl k n x ps cf :=
  ⟨f, fd, a, kf, b, F⟩
end

/-! ### the law itself -/
/-- the law's def: asked with a script, it says True -/
def spEnd (K : PySem.W.Frag) : Sp := fun vs H Q _ => ∃ (a : Addr) (ns : List Int), vs = [.ref a] ∧ SqL K H a (ns.map V.int) ∧ ns.length ≤ 63 ∧ (∀ z ∈ ns, Builtin.Int.intBits z ≤ 1048576) ∧ ∀ H', Q (.bl true) H'
theorem fn_end {P : Program} {w : World} {K : PySem.W.Frag} {mg : Str → Option Value} {base : Heap} {Cl : ClsT} {f : Addr} {fd : FuncData} {ps : List Str} {k : Nat} {cf : CF} (F : FnOk P w K mg base (L2.CX P w) k f fd ps (spV K Cl 1 cf))
    (h : ∀ ns : List Int, ns.length ≤ 63 → (∀ z ∈ ns, Builtin.Int.intBits z ≤ 1048576) → ∃ l, cf [.scr ns] = .ok (.bl true) l) : FnOk P w K mg base (L2.CX P w) k f fd ps (spEnd K) := by
  refine F.imp fun vs H Q E q => ?_
  obtain ⟨a, ns, rfl, hs, hl, hb, hq⟩ := q
  obtain ⟨l, e⟩ := h ns hl hb
  have fin : ∀ G : ASet, FrOk K Cl H G Q E (cf [.scr ns]) := fun G => by
    rw [e]
    intro v H' s r
    obtain ⟨F1, ow, r1, _⟩ := r
    cases r1
    exact hq H'
  rcases hs with hs | hs
  · refine ⟨[.scr ns], fun b => b = a, rfl, .cons (.scr (.inl hs) rfl) .nil, fun b hb => ?_, fin _⟩
    subst hb
    rcases hs with hs | ⟨o, hs⟩
    · rw [hs]; exact fun z => by cases z
    · rw [hs]; exact fun z => by cases z
  · exact ⟨[.scr ns], fun _ => False, rfl, .cons (.scrK fun _ => .inr hs) .nil, fun b hb => hb.elim, fin _⟩
theorem walk {l : PySem.W.OpenLaw} {q : Program} {loose : List Str} {XP : (Str → Option Value) → Heap → Prop} {YP : World → Heap → Prop} {d : DefRec} {K : Params → PySem.W.Frag} {k : Nat} (hn : l.most = some 63) (hdf : d.params.defaults = []) (hr : Room k callerA)
    (hY : ∀ (w : World) (h : Heap), YP w h → (K w.params).In h)
    (F : ∀ (w : World) (mg : Str → Option Value) (fa : Addr) (h : Heap), (K w.params).In h → h.Ns mainGlobals mg → mg d.name = some (.ref fa) →
      ∃ fd : FuncData, (∀ (s : Shared) (u : Value), BindsTo s fd ⟨[u], []⟩ [("script", u)]) ∧ ∀ base : Heap, (K w.params).In base → base.Ns mainGlobals mg → FnOk l.prog w (K w.params) mg base (L2.CX l.prog w) k fa fd ["script"] (spEnd (K w.params))) :
    PySem.W.WalkO q loose XP YP l.row.toRowW d [] (fun f vs => PySem.call f vs) :=
  L2.walk_ofB (n := 63) (k := k) (x := "script") (CX := fun w => L2.CX l.prog w) (sp := fun w => spEnd (K w.params)) hn (by decide) hdf hr hY F (fun w H a ns hl hb hO hS => ⟨a, ns, rfl, hS, hl, hb, fun _ => rfl⟩) fun w H s e s' z => by
    obtain ⟨_, _, _, _, _, _, _, _, _, _, _, _, z⟩ := z
    exact z.elim
end VL

namespace VL
open PySem PySem.Spec L2 PyProof.Rows

/-! ### methods and properties of one's own classes -/
/-- the method m of the class with number c -/
def MethH (P : Program) (w : World) (K : PySem.W.Frag) (mg : Str → Option Value) (base : Heap) (Cl : ClsT) (k n c : Nat) (m : Str) (ps : List Str) (cf : CF) : Prop :=
  ∃ C f fd, Cl c = some C ∧ Cls K C ∧ Meth K C m f ∧ Binds K fd ps [] ∧ FnOk P w K mg base (L2.CX P w) k f fd ps (spV K Cl (n + 1) cf)
/-- the property m of the class with number c -/
def PropH (P : Program) (w : World) (K : PySem.W.Frag) (mg : Str → Option Value) (base : Heap) (Cl : ClsT) (k c : Nat) (m : Str) (ps : List Str) (cf : CF) : Prop :=
  ∃ C p g fd, Cl c = some C ∧ Cls K C ∧ PropOf K C m p g ∧ Binds K fd ps [] ∧ FnOk P w K mg base (L2.CX P w) k g fd ps (spV K Cl 1 cf)
section
variable {X : Cx} {Cl : ClsT} {pos apos : Pos} {o e : Expr} {es : List Expr}
def vMeth (c : Nat) (m : Str) (cf : CF) (fo : VE) (fa : VA) : VE := fun env => match fo env with
  | some x => match x.d with
    | .ins c' fs => if c' = c then (match lookD m fs with
        | none => (match fa env with
          | some rs => frRv (x.al ++ alOf rs) (cf (x.d :: dsOf rs))
          | none => none)
        | some _ => none) else none
    | _ => none
  | none => none
theorem repF_none {K : PySem.W.Frag} {H : Hp} {F : ASet} {n : Str} : ∀ {vs : List (Str × V)} {ds : List (Str × D)}, RepF K Cl H F vs ds → lookD n ds = none → vs.lookup n = none
  | _, _, .nil, _ => rfl
  | _, _, .cons (k := k) a b, e => by
    rw [lookD] at e
    by_cases h : n = k
    · rw [if_pos h] at e; cases e
    · rw [if_neg h] at e
      have q : (n == k) = false := by simpa using h
      rw [List.lookup_cons, q]
      exact repF_none b e
theorem ins_of {K : PySem.W.Frag} {H : Hp} {F : ASet} {v : V} {c : Nat} {fs : List (Str × D)} {C : Addr} (h : Rep K Cl H F v (.ins c fs)) (hC : Cl c = some C) : ∃ a dx xs, v = .ref a ∧ H a = some (.ins C dx xs) ∧ RepF K Cl H F xs fs := by
  cases h with
  | ins h fa cc rf => rw [hC] at cc; cases cc; exact ⟨_, _, _, rfl, h, rf⟩
theorem meth_end {K : PySem.W.Frag} {Hs H1 H2 : Hp} {Fs : Nat → ASet} {v : V} {vs : List V} {x r : Rv} {rs : List Rv} {cf : CF} {n : Nat} {Q : VK} {E : XK} (s1 : Same Hs H1) (w1 : ValOk K Cl Hs H1 Fs v x) (s2 : Same H1 H2) (w2 : ValsOk K Cl H1 H2 Fs vs rs) (hn : rs.length = n)
    (er : frRv (x.al ++ alOf rs) (cf (x.d :: dsOf rs)) = some r) (k : ∀ v H', Same Hs H' → ValOk K Cl Hs H' Fs v r → Q v H') : spV K Cl (n + 1) cf (v :: vs) H2 Q E := by
  have w : ValsOk K Cl Hs H2 Fs (v :: vs) (x :: rs) := ⟨H1, s1, s2, w1, w2⟩
  obtain ⟨F1, r1, t1, f1⟩ := w.reps
  have e1 : alOf (x :: rs) = x.al ++ alOf rs := by unfold alOf; rw [List.flatMap_cons]
  rw [e1] at f1
  refine ⟨dsOf (x :: rs), F1, by rw [w.length, List.length_cons, hn], r1, t1, ?_⟩
  have e2 : dsOf (x :: rs) = x.d :: dsOf rs := rfl
  rw [e2]
  cases ec : cf (x.d :: dsOf rs) with
  | ok d l =>
    rw [ec] at er
    cases er
    exact fun v H' s3 w3 => k v H' (s1.trans (s2.trans s3)) (.nrm (ret_val (s1.trans s2) f1 w3))
  | ex c fs => rw [ec] at er; cases er
  | no => rw [ec] at er; cases er
theorem ve_methH {k n c : Nat} {m : Str} {ps : List Str} {cf : CF} {fo : VE} {fa : VA} {pl : Sem Bool} (M : MethH X.prog X.w X.K X.mg X.base Cl k n c m ps cf) (hr : Room k X.A) (ho : VEok X Cl o fo) (ha : VAok X Cl (e :: es) fa) (hn : (e :: es).length = n) (hl : ∀ env rs, fa env = some rs → rs.length = n)
    (hst : starEach (e :: es) X.env = (false, eval e X.env) :: starEach es X.env := by rfl) (hpl : (backTo pos (starEach es X.env)).any (·.1) = false := by rfl)
    (ht : eval (.Call (.Attribute o m apos) (e :: es) [] pos) X.env = (do
      let ov ← eval o X.env
      standAt apos.atName
      let (f, first) ← holding [ov] (getMethod ov m pl)
      callWith pos f first (backTo pos (starEach (e :: es) X.env)) (backToKw pos (keywordEach [] X.env))) := by rfl) : VEok X Cl (.Call (.Attribute o m apos) (e :: es) [] pos) (vMeth c m cf fo fa) := by
  obtain ⟨C, f, fd, hC, hk, hm, hb, F⟩ := M
  obtain ⟨to, po, qo⟩ := ho
  obtain ⟨ta, pa, qa⟩ := ha
  refine ⟨_, pe_meth po hk hm F hr hb .nil passL pa hst hpl ht, fun H0 G σ H env Fs ow r Q S er kk => ?_⟩
  unfold vMeth at er
  split at er <;> (first | (cases er; done) | skip)
  rename_i x ex
  split at er <;> (first | (cases er; done) | skip)
  rename_i c' fs ed
  split at er <;> (first | (cases er; done) | skip)
  rename_i ec
  subst ec
  split at er <;> (first | (cases er; done) | skip)
  rename_i hlk
  split at er <;> (first | (cases er; done) | skip)
  rename_i rs ers
  refine qo _ _ _ _ _ _ _ _ _ S ex fun v H1 s1 w1 => ?_
  obtain ⟨F0, r0⟩ := w1.rep
  rw [ed] at r0
  obtain ⟨a, dx, xs, rfl, h1, rf⟩ := ins_of r0 hC
  refine ⟨a, dx, xs, rfl, h1, repF_none rf hlk, ?_⟩
  refine qa _ _ _ _ _ _ _ _ _ (S.go s1) ers fun vs H2 s2 w2 => ?_
  rw [List.append_nil]
  exact meth_end s1 w1 s2 w2 (hl _ _ ers) er kk
theorem ve_methH0 {k c : Nat} {m : Str} {ps : List Str} {cf : CF} {fo : VE} {pl : Sem Bool} (M : MethH X.prog X.w X.K X.mg X.base Cl k 0 c m ps cf) (hr : Room k X.A) (ho : VEok X Cl o fo)
    (ht : eval (.Call (.Attribute o m apos) [] [] pos) X.env = (do
      let ov ← eval o X.env
      standAt apos.atName
      let (f, first) ← holding [ov] (getMethod ov m pl)
      callWith pos f first (backTo pos (starEach [] X.env)) (backToKw pos (keywordEach [] X.env))) := by rfl) : VEok X Cl (.Call (.Attribute o m apos) [] [] pos) (vMeth c m cf fo (fun _ => some [])) := by
  obtain ⟨C, f, fd, hC, hk, hm, hb, F⟩ := M
  obtain ⟨to, po, qo⟩ := ho
  refine ⟨_, pe_meth0 (pl := pl) po hk hm F hr hb .nil passL ht, fun H0 G σ H env Fs ow r Q S er kk => ?_⟩
  unfold vMeth at er
  split at er <;> (first | (cases er; done) | skip)
  rename_i x ex
  split at er <;> (first | (cases er; done) | skip)
  rename_i c' fs ed
  split at er <;> (first | (cases er; done) | skip)
  rename_i ec
  subst ec
  split at er <;> (first | (cases er; done) | skip)
  rename_i hlk
  dsimp only at er
  refine qo _ _ _ _ _ _ _ _ _ S ex fun v H1 s1 w1 => ?_
  obtain ⟨F0, r0⟩ := w1.rep
  rw [ed] at r0
  obtain ⟨a, dx, xs, rfl, h1, rf⟩ := ins_of r0 hC
  refine ⟨a, dx, xs, rfl, h1, repF_none rf hlk, ?_⟩
  exact meth_end s1 w1 (Same.refl _) (vs := []) (rs := []) trivial rfl er kk
/-- e.m of a property -/
def vProp (c : Nat) (cf : CF) (fo : VE) : VE := fun env => match fo env with
  | some x => match x.d with
    | .ins c' _ => if c' = c then frRv (x.al ++ alOf []) (cf (x.d :: dsOf [])) else none
    | _ => none
  | none => none
theorem ve_propH {k c : Nat} {m : Str} {ps : List Str} {cf : CF} {fo : VE} (M : PropH X.prog X.w X.K X.mg X.base Cl k c m ps cf) (hr : Room (k + 1) X.A) (ho : VEok X Cl o fo) (hab : attributeBase o m X.env (eval o X.env) = eval o X.env := by rfl) :
    VEok X Cl (.Attribute o m pos) (vProp c cf fo) := by
  obtain ⟨C, p, g, fd, hC, hk, hm, hb, F⟩ := M
  obtain ⟨to, po, qo⟩ := ho
  refine ⟨_, pe_prop po hk hm F hr hb .nil passL hab, fun H0 G σ H env Fs ow r Q S er kk => ?_⟩
  unfold vProp at er
  split at er <;> (first | (cases er; done) | skip)
  rename_i x ex
  split at er <;> (first | (cases er; done) | skip)
  rename_i c' fs ed
  split at er <;> (first | (cases er; done) | skip)
  rename_i ec
  subst ec
  refine qo _ _ _ _ _ _ _ _ _ S ex fun v H1 s1 w1 => ?_
  obtain ⟨F0, r0⟩ := w1.rep
  rw [ed] at r0
  obtain ⟨a, dx, xs, rfl, h1, rf⟩ := ins_of r0 hC
  exact ⟨a, dx, xs, rfl, h1, meth_end s1 w1 (Same.refl _) (vs := []) (rs := []) trivial rfl er kk⟩
end
end VL

namespace VL
open PySem PySem.Spec L2 PyProof.Rows

/-! ### an instance of one's own is changed: self.f = e -/
section
variable {K : PySem.W.Frag} {Cl : ClsT} {H0 H H' : Hp} {G : ASet} {σ : L2.St} {env : Ev} {Fs : Nat → ASet} {ow : Nat → List Addr}
/-- .. and is changed -/
theorem StOk.chgO (S : StOk K Cl H0 G σ H env Fs ow) (s : Same H H') {i fl : Nat} {d0 d : D} {al : List Nat} {a : Addr} {u o : HO} {F' F : ASet} (e : env[i]? = some (some (fl, d0)))
    (h1 : σ[i]? = some (some (.ref a))) (ha : H a = some u) (hu1 : ∀ xs, u ≠ .tup xs) (hu2 : NoFx u) (ho1 : ∀ xs, o ≠ .tup xs) (ho2 : NoFx o) (ha' : a ∈ ow i) (n : ¬ F' a) (m : ∀ b, F' b → Fs i b) (t : ∀ b, F b → H' b ≠ none) (f : ∀ b, F b → H b = none ∨ ∃ j ∈ al, Fs j b) (ni : i ∉ al) (r : Own K Cl (upd H' a o) (fun b => F' b ∨ F b) a d) :
    ∃ Fs' ow', Stp H ow (upd H' a o) ow' ∧ StOk K Cl H0 G σ (upd H' a o) ((VL.frz al env).set i (some (1, d))) Fs' ow' := by
  have hi : i < env.length := (List.getElem?_eq_some_iff.mp e).1
  obtain ⟨qa1, qa2, qa3⟩ := S.own i a ha'
  have nF : ¬ F a := fun fa => by
    rcases f a fa with h | ⟨j, hj, h⟩
    · rw [ha] at h; cases h
    · exact qa3 j (fun z => ni (z ▸ hj)) h
  have ha2 : H' a = some u := s a _ ha
  have nn : ¬ (F' a ∨ F a) := fun z => z.elim n nF
  have st : ∀ {F0 : ASet}, ¬ F0 a → Stay F0 H' (upd H' a o) := fun h0 => Stay.upd ha2 h0 hu1 hu2
  have y := (S.frz (al := al)).go s
  let F2 : ASet := fun b => b = a ∨ F' b ∨ F b
  refine ⟨ins1 i F2 Fs, ins1 i [a] (noOws al ow), ⟨fun b ob eb nb => ?_, fun b ⟨j, hj⟩ => ?_⟩, fun b ob eb => ?_, ?_, fun j fl' d' e' => ?_, fun j b fb => ?_, fun j b fb => ?_, fun j b hb => ?_, fun j b hb => ?_, fun j b fb => ?_⟩
  · rw [upd_ne (fun z => nb ⟨i, by rw [z]; exact ha'⟩)]; exact s b ob eb
  · by_cases hj' : j = i
    · subst hj'
      rw [ins1_same, List.mem_singleton] at hj
      subst hj
      exact .inl ⟨j, ha'⟩
    · rw [ins1_ne hj'] at hj; exact .inl ⟨j, noOws_sub (al := al) j b hj⟩
  · rw [upd_ne (fun z => by subst z; rw [qa2] at eb; cases eb)]; exact y.same b ob eb
  · rw [List.length_set, frz_length]; exact S.len
  · by_cases hj : j = i
    · subst hj
      rw [List.getElem?_set_self (by rw [frz_length]; exact hi)] at e'
      cases e'
      rw [ins1_same, ins1_same]
      exact ⟨.ref a, h1, r.rep (.inl rfl) (fun b h => .inr h), .one (F' := fun b => F' b ∨ F b) r nn (fun b h => .inr h) (.inl rfl)⟩
    · rw [List.getElem?_set_ne (fun z => hj z.symm)] at e'
      rw [ins1_ne hj, ins1_ne hj]
      obtain ⟨v, k1, k2, k3⟩ := y.val j fl' d' e'
      have na : ¬ Fs j a := qa3 j hj
      exact ⟨v, k1, k2.go (st na) fun _ h => h, k3.go (st na) fun _ h => h⟩
  · by_cases hba : b = a
    · subst hba; rw [upd_same]; intro z; cases z
    · rw [upd_ne hba]
      by_cases hj : j = i
      · subst hj
        rw [ins1_same] at fb
        rcases fb with fb | fb | fb
        · exact absurd fb hba
        · exact y.trk j b (m b fb)
        · exact t b fb
      · rw [ins1_ne hj] at fb; exact y.trk j b fb
  · by_cases hj : j = i
    · subst hj
      rw [ins1_same] at fb
      rcases fb with fb | fb | fb
      · subst fb; exact .inl qa2
      · exact S.base j b (m b fb)
      · rcases f b fb with h | ⟨k, _, h⟩
        · exact .inl (S.same.free h)
        · exact S.base k b h
    · rw [ins1_ne hj] at fb; exact S.base j b fb
  · by_cases hj : j = i
    · subst hj
      rw [ins1_same, List.mem_singleton] at hb
      subst hb
      exact ⟨by rw [ins1_same]; exact .inl rfl, qa2, fun k hk => by rw [ins1_ne hk]; exact qa3 k hk⟩
    · rw [ins1_ne hj] at hb
      have hb' := noOws_sub (al := al) j b hb
      obtain ⟨p1, p2, p3⟩ := S.own j b hb'
      refine ⟨by rw [ins1_ne hj]; exact p1, p2, fun k hk => ?_⟩
      by_cases hki : k = i
      · subst hki
        rw [ins1_same]
        rintro (fb | fb | fb)
        · subst fb; exact p3 k hk qa1
        · exact p3 k hk (m b fb)
        · rcases f b fb with h | ⟨q, hq, h⟩
          · exact S.trk j b p1 h
          · by_cases hqj : q = j
            · subst hqj; exact noOws_not hb hq
            · exact p3 q hqj h
      · rw [ins1_ne hki]; exact p3 k hk
  · by_cases hba : b = a
    · subst hba; exact ⟨_, upd_same, ho1, ho2⟩
    · rw [upd_ne hba]
      by_cases hj : j = i
      · subst hj; rw [ins1_same, List.mem_singleton] at hb; exact absurd hb hba
      · rw [ins1_ne hj] at hb; exact y.kind j b hb
  · have hlen : ((VL.frz al env).set i (some (1, d))).length = env.length := by rw [List.length_set, frz_length]
    rw [hlen]
    by_cases hj : j = i
    · subst hj; exact hi
    · rw [ins1_ne hj] at fb; exact S.fin j b fb
/-- slot i holds an instance of its own -/
theorem StOk.mineI (S : StOk K Cl H0 G σ H env Fs ow) {i fl c : Nat} {fs : List (Str × D)} (e : env[i]? = some (some (fl, .ins c fs))) (hfl : 1 ≤ fl) :
    ∃ a C dx xs F', σ[i]? = some (some (.ref a)) ∧ H a = some (.ins C dx xs) ∧ Cl c = some C ∧ RepF K Cl H F' xs fs ∧ ¬ F' a ∧ (∀ b, F' b → Fs i b) ∧ Fs i a ∧ a ∈ ow i := by
  obtain ⟨v, h1, h2, h3⟩ := S.val i fl _ e
  obtain ⟨a, F', rfl, o, n, m, fa, ha⟩ := h3.top hfl (by rw [noMut])
  cases o with
  | ins h cc r => exact ⟨a, _, _, _, F', h1, h, cc, r, n, m, fa, ha⟩
end
def putD (f : Str) (d : D) : List (Str × D) → List (Str × D)
  | [] => [(f, d)]
  | (g, x) :: r => if g = f then (g, d) :: r else (g, x) :: putD f d r
theorem repF_put {K : PySem.W.Frag} {Cl : ClsT} {H : Hp} {F : ASet} {f : Str} {v : V} {d : D} (q : Rep K Cl H F v d) : ∀ {xs : List (Str × V)} {ds : List (Str × D)}, RepF K Cl H F xs ds → RepF K Cl H F (putF f v xs) (putD f d ds)
  | _, _, .nil => .cons q .nil
  | _, _, .cons (k := k) a b => by
    rw [putF, putD]
    by_cases h : k = f
    · rw [if_pos h, if_pos h]; exact .cons q b
    · rw [if_neg h, if_neg h]; exact .cons a (repF_put q b)
theorem repF_length {K : PySem.W.Frag} {Cl : ClsT} {H : Hp} {F : ASet} : ∀ {xs : List (Str × V)} {ds : List (Str × D)}, RepF K Cl H F xs ds → xs.length = ds.length
  | _, _, .nil => rfl
  | _, _, .cons a b => by rw [List.length_cons, List.length_cons, repF_length b]
section
variable {X : Cx} {W : WX} {Cl : ClsT}
/-- x.f = e, x an instance of the class c that is its own in slot i -/
def vFldSet (i c : Nat) (n : Str) (f : VE) : VS := fun env => match f env with
  | some r => match env[i]? with
    | some (some (fl, .ins c' fs)) => if decide (c' = c) && ((decide (1 ≤ fl) && notIn i r.al) && decide (fs.length < 1000)) then .nx ((frz r.al env).set i (some (1, .ins c (putD n r.d fs)))) else .no
    | _ => .no
  | none => .no
theorem vs_fldset (i : Nat) {c : Nat} {C : Addr} {x n : Str} {e : Expr} {p p' pos : Pos} {f : VE} (hC : Cl c = some C) (hk : Cls X.K C) (hn : NoAttr X.K C n) (h : VEok X Cl e f) (hN : X.N[i]? = some x := by rfl) (hv : Vis X.env.scope x := by first | exact Or.inl rfl | exact Or.inr (Or.inl rfl) | exact Or.inr (Or.inr rfl)) (hd : (x == ("__debug__" : Str)) = false := by decide)
    (hcd : (x == ("__classdict__" : Str)) = false := by decide) (hs : swapsWith e (some (.Attribute (.Name x p) n p')) pos.line X.env = pure false := by rfl) :
    VSok X W Cl (.Assign [.Attribute (.Name x p) n p'] e pos) (vFldSet i c n f) := by
  obtain ⟨te, pe, qe⟩ := h
  refine ⟨_, ps_fld (pe_var (i := i) hN hv hd hcd) pe hs, fun H0 G D σ H env Fs ow S k => ?_⟩
  unfold vFldSet at k
  split at k <;> (first | (exact k.elim; done) | skip)
  rename_i r er
  split at k <;> (first | (exact k.elim; done) | skip)
  rename_i fl c' fs ex
  split at k <;> (first | (exact k.elim; done) | skip)
  rename_i hc
  simp only [Bool.and_eq_true, decide_eq_true_eq] at hc
  obtain ⟨rfl, ⟨hfl, hni⟩, hlen⟩ := hc
  obtain ⟨a, C', dx, xs, F', h1, ha, cc, ra, nF, m, fa, hao⟩ := S.mineI ex hfl
  rw [hC] at cc
  cases cc
  refine qe _ _ _ _ _ _ _ _ _ S er fun v H1 s1 w1 => ?_
  obtain ⟨F, wo, q1, q2, q3, q4, q5⟩ := w1
  refine ⟨.ref a, h1, a, C, dx, xs, rfl, s1 a _ ha, hk, hn, by rw [repF_length ra]; exact hlen, ?_⟩
  have r1 : RepF X.K Cl H1 (fun b => F' b ∨ F b) (putF n v xs) (putD n r.d fs) := repF_put (q1.mono fun _ => .inr) (ra.go (.of_same s1) fun _ => .inl)
  have nFa : ¬ F a := fun z => by
    rcases q3 a z with h | ⟨j, hj, h⟩
    · rw [ha] at h; cases h
    · exact (S.own i a hao).2.2 j (fun z => notIn_of hni (z ▸ hj)) h
  obtain ⟨Fs', ow', k1, k2⟩ := S.chgO s1 (o := .ins C dx (putF n v xs)) (d := .ins c' (putD n r.d fs)) ex h1 ha (fun _ z => by cases z) (⟨(fun _ _ z => by cases z), fun _ z => by cases z⟩) (fun _ z => by cases z) (⟨(fun _ _ z => by cases z), fun _ z => by cases z⟩) hao nF m q2 q3 (notIn_of hni)
    (.ins upd_same hC (r1.go (Stay.upd (s1 a _ ha) (fun z => z.elim nF nFa) (fun _ z => by cases z) ⟨(fun _ _ z => by cases z), fun _ z => by cases z⟩) fun _ h => h))
  exact k _ _ _ _ k1 k2
end
end VL

namespace VL
open PySem PySem.Spec L2 PyProof.Rows

/-! ### the body of an __init__: its slots stay, self is slot 0 -/
def EndI (K : PySem.W.Frag) (Cl : ClsT) (W : WX) (H0 : Hp) (G : ASet) (D : Ends) (σ : L2.St) (H : Hp) (ow : Nat → List Addr) : Rs → Prop
  | .nx e => ∀ H' Fs' ow', Stp H ow H' ow' → StOk K Cl H0 G σ H' e Fs' ow' → D.nx σ H'
  | .ex e c fs => ∀ H' Fs' ow' cls d, Stp H ow H' ow' → StOk K Cl H0 G σ H' e Fs' ow' → ExcIs K Cl H' cls d c fs → W cls d σ H'
  | _ => False
theorem EndI.later {K : PySem.W.Frag} {Cl : ClsT} {H0 H H1 : Hp} {G : ASet} {D : Ends} {σ : L2.St} {ow ow1 : Nat → List Addr} {r : Rs} {W : WX} (h : EndI K Cl W H0 G D σ H ow r) (s : Stp H ow H1 ow1) : EndI K Cl W H0 G D σ H1 ow1 r := by
  cases r with
  | nx e => exact fun H' Fs' ow' s' x => h H' Fs' ow' (s.trans s') x
  | ex e c fs => exact fun H' Fs' ow' cls d s' x => h H' Fs' ow' cls d (s.trans s') x
  | bk e => exact h
  | ct e => exact h
  | ret d l => exact h
  | no => exact h
def ISok (X : Cx) (W : WX) (Cl : ClsT) (st : Stmt) (f : VS) : Prop := ∃ t, PS X st t ∧ ∀ (H0 : Hp) (G : ASet) (D : Ends) (σ : L2.St) (H : Hp) (env : Ev) (Fs : Nat → ASet) (ow : Nat → List Addr), StOk X.K Cl H0 G σ H env Fs ow →
  EndI X.K Cl W H0 G D σ H ow (f env) → t D σ H
def IBok (X : Cx) (W : WX) (Cl : ClsT) (st : List Stmt) (f : VS) : Prop := ∃ t, PSs X st t ∧ ∀ (H0 : Hp) (G : ASet) (D : Ends) (σ : L2.St) (H : Hp) (env : Ev) (Fs : Nat → ASet) (ow : Nat → List Addr), StOk X.K Cl H0 G σ H env Fs ow →
  EndI X.K Cl W H0 G D σ H ow (f env) → t D σ H
section
variable {X : Cx} {W : WX} {Cl : ClsT}
theorem ib_nil : IBok X W Cl [] (fun e => .nx e) := ⟨_, pss_nil, fun H0 G D σ H env Fs ow S k => k H Fs ow (Stp.refl _ _) S⟩
theorem ib_one {st : Stmt} {f : VS} (h : ISok X W Cl st f) : IBok X W Cl [st] f := let ⟨t, p, q⟩ := h; ⟨t, pss_one p, q⟩
theorem ib_cons {st : Stmt} {rest : List Stmt} {f g : VS} (h1 : ISok X W Cl st f) (h2 : IBok X W Cl rest g) : IBok X W Cl (st :: rest) (vSeq f g) := by
  obtain ⟨t, p, q⟩ := h1
  obtain ⟨u, p2, q2⟩ := h2
  refine ⟨_, pss_cons p p2, fun H0 G D σ H env Fs ow S k => q _ _ _ _ _ _ _ _ S ?_⟩
  unfold vSeq at k
  cases e : f env with
  | nx e1 =>
    rw [e] at k
    exact fun H' Fs' ow' s x => q2 _ _ _ _ _ _ _ _ x (k.later s)
  | bk e1 => rw [e] at k; exact k.elim
  | ct e1 => rw [e] at k; exact k.elim
  | ret d l => rw [e] at k; exact k.elim
  | ex e1 c fs => rw [e] at k; exact k
  | no => rw [e] at k; exact k.elim
theorem is_expr {e : Expr} {pos : Pos} {f : VE} (h : VEok X Cl e f) (hs : swapsWith e none pos.line X.env = pure false := by rfl) : ISok X W Cl (.Expr e pos) (vDrop f) := by
  obtain ⟨t, p, q⟩ := h
  refine ⟨_, ps_expr p hs, fun H0 G D σ H env Fs ow S k => ?_⟩
  unfold vDrop at k
  split at k
  · rename_i r er
    exact q _ _ _ _ _ _ _ _ _ S er fun v H1 s1 w1 => k H1 Fs ow (.of_same s1 fun _ h => .inl h) (S.go s1)
  · exact k.elim
theorem is_fldset (i : Nat) {c : Nat} {C : Addr} {x n : Str} {e : Expr} {p p' pos : Pos} {f : VE} (hC : Cl c = some C) (hk : Cls X.K C) (hn : NoAttr X.K C n) (h : VEok X Cl e f) (hN : X.N[i]? = some x := by rfl) (hv : Vis X.env.scope x := by first | exact Or.inl rfl | exact Or.inr (Or.inl rfl) | exact Or.inr (Or.inr rfl)) (hd : (x == ("__debug__" : Str)) = false := by decide)
    (hcd : (x == ("__classdict__" : Str)) = false := by decide) (hs : swapsWith e (some (.Attribute (.Name x p) n p')) pos.line X.env = pure false := by rfl) :
    ISok X W Cl (.Assign [.Attribute (.Name x p) n p'] e pos) (vFldSet i c n f) := by
  obtain ⟨te, pe, qe⟩ := h
  refine ⟨_, ps_fld (pe_var (i := i) hN hv hd hcd) pe hs, fun H0 G D σ H env Fs ow S k => ?_⟩
  unfold vFldSet at k
  split at k <;> (first | (exact k.elim; done) | skip)
  rename_i r er
  split at k <;> (first | (exact k.elim; done) | skip)
  rename_i fl c' fs ex
  split at k <;> (first | (exact k.elim; done) | skip)
  rename_i hc
  simp only [Bool.and_eq_true, decide_eq_true_eq] at hc
  obtain ⟨rfl, ⟨hfl, hni⟩, hlen⟩ := hc
  obtain ⟨a, C', dx, xs, F', h1, ha, cc, ra, nF, m, fa, hao⟩ := S.mineI ex hfl
  rw [hC] at cc
  cases cc
  refine qe _ _ _ _ _ _ _ _ _ S er fun v H1 s1 w1 => ?_
  obtain ⟨F, wo, q1, q2, q3, q4, q5⟩ := w1
  refine ⟨.ref a, h1, a, C, dx, xs, rfl, s1 a _ ha, hk, hn, by rw [repF_length ra]; exact hlen, ?_⟩
  have r1 : RepF X.K Cl H1 (fun b => F' b ∨ F b) (putF n v xs) (putD n r.d fs) := repF_put (q1.mono fun _ => .inr) (ra.go (.of_same s1) fun _ => .inl)
  have nFa : ¬ F a := fun z => by
    rcases q3 a z with h | ⟨j, hj, h⟩
    · rw [ha] at h; cases h
    · exact (S.own i a hao).2.2 j (fun z => notIn_of hni (z ▸ hj)) h
  obtain ⟨Fs', ow', k1, k2⟩ := S.chgO s1 (o := .ins C dx (putF n v xs)) (d := .ins c' (putD n r.d fs)) ex h1 ha (fun _ z => by cases z) (⟨(fun _ _ z => by cases z), fun _ z => by cases z⟩) (fun _ z => by cases z) (⟨(fun _ _ z => by cases z), fun _ z => by cases z⟩) hao nF m q2 q3 (notIn_of hni)
    (.ins upd_same hC (r1.go (Stay.upd (s1 a _ ha) (fun z => z.elim nF nFa) (fun _ z => by cases z) ⟨(fun _ _ z => by cases z), fun _ z => by cases z⟩) fun _ h => h))
  exact k _ _ _ k1 k2
end

/-! ### the contract of an __init__ -/
def FrMk (K : PySem.W.Frag) (Cl : ClsT) (x : Addr) (H : Hp) (G : ASet) (Q : VK) (E : XK) : Fr → Prop
  | .ok d _ => ∀ H', (∀ a o, a ≠ x → H a = some o → H' a = some o) → (∃ F', Own K Cl H' F' x d ∧ ¬ F' x ∧ (∀ a, F' a → H' a ≠ none) ∧ ∀ a, F' a → H a = none ∨ G a) → Q .non H'
  | .ex c fs => ∀ cls d H', (∀ a o, a ≠ x → H a = some o → H' a = some o) → ExcIs K Cl H' cls d c fs → E cls d H'
  | .no => False
def spMk (K : PySem.W.Frag) (Cl : ClsT) (n c : Nat) (cf : CF) : Sp := fun vs H Q E => ∃ (x dx C : Addr) (as : List V) (ds : List D) (G : ASet), vs = .ref x :: as ∧ as.length = n ∧ Cl c = some C ∧ H x = some (.ins C dx []) ∧ Reps K Cl H G as ds ∧ (∀ a, G a → H a ≠ none) ∧ ¬ G x ∧ FrMk K Cl x H G Q E (cf ds)
def envI (N c : Nat) (ds : List D) : Ev := some (1, .ins c []) :: env0 (N - 1) ds
def vInit (N c : Nat) (body : VS) : CF := fun ds => match body (envI N c ds) with
  | .nx e => (match (e[0]? : Option Slot) with
    | some (some (fl, D.ins c' fs)) => if 1 ≤ fl then .ok (.ins c' fs) 1 else .no
    | _ => .no)
  | .ex _ c fs => .ex c fs
  | _ => .no
def hid (x : Addr) (H : Hp) : Hp := fun b => if b = x then none else H b
theorem hid_ne {x b : Addr} {H : Hp} (h : b ≠ x) : hid x H b = H b := if_neg h
theorem hid_same {x : Addr} {H : Hp} : hid x H x = none := if_pos rfl
theorem env0_len {N : Nat} {ds : List D} (h : ds.length ≤ N) : (env0 N ds).length = N := by
  unfold env0
  rw [List.length_append, List.length_map, List.length_replicate]
  omega
theorem env0_at {N : Nat} {ds : List D} {i fl : Nat} {d : D} (e : (env0 N ds)[i]? = some (some (fl, d))) : fl = 0 ∧ ds[i]? = some d ∧ i < ds.length := by
  unfold env0 at e
  have hi : i < ds.length := by
    by_cases hi : i < ds.length
    · exact hi
    · rw [List.getElem?_append_right (by simpa using hi), List.getElem?_replicate] at e
      split at e <;> cases e
  rw [List.getElem?_append_left (by simpa using hi), List.getElem?_map] at e
  cases hd : ds[i]? with
  | none => rw [hd] at e; cases e
  | some d' => rw [hd] at e; cases e; exact ⟨rfl, rfl, hi⟩
theorem StOk.initI {K : PySem.W.Frag} {Cl : ClsT} {H : Hp} {G : ASet} {N : List Str} {as : List V} {ds : List D} {x dx C : Addr} {c : Nat} (hC : Cl c = some C) (hx : H x = some (.ins C dx [])) (r : Reps K Cl H G as ds) (t : ∀ a, G a → H a ≠ none) (nG : ¬ G x) (hn : as.length + 1 ≤ N.length) :
    StOk K Cl (hid x H) G (L2.start N (.ref x :: as)) H (envI N.length c ds) (fun i a => i < N.length ∧ if i = 0 then a = x else G a) (fun i => if i = 0 then [x] else []) := by
  have hl := r.length
  have hlen : (envI N.length c ds).length = N.length := by
    unfold envI
    rw [List.length_cons, env0_len (by omega)]
    omega
  have gx : ∀ a, G a → a ≠ x := fun a g z => nG (z ▸ g)
  refine ⟨fun b o e => ?_, ?_, fun i fl d e => ?_, fun i a f => ?_, fun i a f => ?_, fun i a h => ?_, fun i a h => ?_, fun i a f => by rw [hlen]; exact f.1⟩
  · by_cases hb : b = x
    · rw [hb, hid_same] at e; cases e
    · rw [hid_ne hb] at e; exact e
  · rw [hlen]
    unfold L2.start
    rw [List.length_append, List.length_map, List.length_replicate, List.length_cons]
    omega
  · cases i with
    | zero =>
      cases e
      refine ⟨.ref x, rfl, .ins hx ⟨by omega, by simp⟩ hC .nil, ?_⟩
      exact .one (F' := fun _ => False) (.ins hx hC .nil) (fun z => z) (fun _ z => z.elim) ⟨by omega, by simp⟩
    | succ i =>
      have e' : (env0 (N.length - 1) ds)[i]? = some (some (fl, d)) := by simpa [envI] using e
      obtain ⟨rfl, hd, hi⟩ := env0_at e'
      obtain ⟨v, h1, h2⟩ := r.get hd
      refine ⟨v, ?_, h2.mono fun a g => ⟨by omega, by rw [if_neg (Nat.succ_ne_zero i)]; exact g⟩, ?_⟩
      · unfold L2.start
        rw [List.getElem?_append_left (by rw [List.length_map, List.length_cons]; omega), List.getElem?_map]
        have : (V.ref x :: as)[i + 1]? = some v := by simpa using h1
        rw [this]
        rfl
      · rw [if_neg (Nat.succ_ne_zero i)]; exact .zero
  · obtain ⟨_, f⟩ := f
    split at f
    · rw [f, hx]; exact fun z => by cases z
    · exact t a f
  · obtain ⟨_, f⟩ := f
    split at f
    · rw [f]; exact .inl hid_same
    · exact .inr f
  · split at h
    · rename_i hi
      rw [List.mem_singleton] at h
      subst h
      refine ⟨⟨by omega, by rw [if_pos hi]⟩, hid_same, fun j hj f => ?_⟩
      obtain ⟨_, f⟩ := f
      rw [if_neg (fun z => hj (z.trans hi.symm))] at f
      exact nG f
    · cases h
  · split at h
    · rw [List.mem_singleton] at h
      subst h
      exact ⟨_, hx, (fun _ z => by cases z), ⟨(fun _ _ z => by cases z), fun _ z => by cases z⟩⟩
    · cases h
section
variable {P : Program} {w : World} {K : PySem.W.Frag} {mg : Str → Option Value} {base : Heap} {Cl : ClsT}
theorem fn_initV {x qual : Str} {st : Stmt} {f : Addr} {fd : FuncData} {N ps : List Str} {k n c : Nat} {body : VS} (F : Fun K x qual st f fd) (S : FnScope N ps (defScope st)) (hn : ps.length = n + 1)
    (hb : ∀ (cdv : Value) (A : Around) (outer : List Env) (s : Shared) (H : Hp) (E : XK), Room k (A.deeper (envOfC qual (defScope st) s.heap.objs.size f cdv)) → IBok (bodyCx P w K mg base N qual st f cdv A outer s H E) (wE E) Cl (defBody st) body) :
    FnOk P w K mg base (L2.CX P w) (k + 1) f fd ps (spMk K Cl n c (vInit N.length c body)) := by
  have hpl : ps.length ≤ N.length := by have := congrArg List.length S.pre; rw [List.length_take] at this; omega
  refine F.okX S (fun vs H Q E h => ?_) (fun cdv A outer s H vs Q E hr h => ?_)
  · obtain ⟨x, dx, C, as, ds, G, rfl, h1, _⟩ := h
    rw [List.length_cons, h1, hn]
  · obtain ⟨x, dx, C, as, ds, G, rfl, h1, hC, hx, r, t, nG, fr⟩ := h
    obtain ⟨tt, p, q⟩ := hb cdv A outer s H E hr
    have S0 := StOk.initI (N := N) hC hx r t nG (by omega)
    refine ⟨tt, p, q (hid x H) G _ _ _ _ _ _ S0 ?_⟩
    have owx : ∀ a, Ow (fun i => if i = 0 then [x] else []) a → a = x := fun a ⟨i, h⟩ => by
      dsimp only at h
      split at h
      · exact List.mem_singleton.mp h
      · cases h
    unfold vInit at fr
    cases e : body (envI N.length c ds) with
    | nx e1 =>
      rw [e] at fr
      intro H' Fs' ow' s' y
      dsimp only at fr
      split at fr <;> (first | (exact fr.elim; done) | skip)
      rename_i fl c' fs e0
      split at fr <;> (first | (exact fr.elim; done) | skip)
      rename_i hfl
      obtain ⟨a, C', dx', xs, F', h1', ha, cc, ra, nF, m, fa, hao⟩ := y.mineI e0 hfl
      have hax : a = x := by
        have : (L2.start N (V.ref x :: as))[0]? = some (some (.ref x)) := rfl
        rw [this] at h1'
        cases h1'
        rfl
      subst hax
      refine fr H' (fun b o hb eb => s'.keep b o eb fun z => hb (owx b z)) ⟨F', .ins ha cc ra, nF, fun b z => y.trk 0 b (m b z), fun b z => ?_⟩
      rcases y.base 0 b (m b z) with h | h
      · by_cases hb : b = a
        · subst hb; exact absurd z nF
        · rw [hid_ne hb] at h; exact .inl h
      · exact .inr h
    | bk e1 => rw [e] at fr; exact fr.elim
    | ct e1 => rw [e] at fr; exact fr.elim
    | ret d l => rw [e] at fr; exact fr.elim
    | ex e1 c fs =>
      rw [e] at fr
      exact fun H' Fs' ow' cls d s' x1 y => fr cls d H' (fun b o hb eb => s'.keep b o eb fun z => hb (owx b z)) y
    | no => rw [e] at fr; exact fr.elim
end
/-- the class x with number c, made by its __init__ -/
def MkH (P : Program) (w : World) (K : PySem.W.Frag) (mg : Str → Option Value) (base : Heap) (Cl : ClsT) (k n c : Nat) (x : Str) (ps : List Str) (cf : CF) : Prop :=
  ∃ C f fd, Cl c = some C ∧ mg x = some (.ref C) ∧ Mk K C f ∧ Binds K fd ps [] ∧ FnOk P w K mg base (L2.CX P w) k f fd ps (spMk K Cl n c cf)
section
variable {X : Cx} {Cl : ClsT} {p pos : Pos} {e : Expr} {es : List Expr}
def vMake (cf : CF) (fa : VA) : VE := fun env => match fa env with
  | some rs => (match cf (dsOf rs) with
    | .ok d _ => some ⟨d, 1, alOf rs⟩
    | _ => none)
  | none => none
theorem ve_make {k n c : Nat} {x : Str} {ps : List Str} {cf : CF} {fa : VA} (M : MkH X.prog X.w X.K X.mg X.base Cl k n c x ps cf) (hr : Room (k + 1) X.A) (hn : (e :: es).length = n) (ha : VAok X Cl (e :: es) fa) (hl : ∀ env rs, fa env = some rs → rs.length = n) (hg : Gl X x := by rfl)
    (hdb : (x == ("__debug__" : Str)) = false := by decide) (he : starEach (e :: es) X.env = (false, eval e X.env) :: starEach es X.env := by rfl) (hpl : (backTo pos (starEach es X.env)).any (·.1) = false := by rfl) : VEok X Cl (.Call (.Name x p) (e :: es) [] pos) (vMake cf fa) := by
  obtain ⟨C, f, fd, hC, hm, hk, hb, F⟩ := M
  obtain ⟨ta, pa, qa⟩ := ha
  refine ⟨_, pe_make hk F hr hg hm hb .nil passL pa hdb he hpl, fun H0 G σ H env Fs ow r Q S er kk => ?_⟩
  unfold vMake at er
  split at er <;> (first | (cases er; done) | skip)
  rename_i rs ers
  refine qa _ _ _ _ _ _ _ _ _ S ers fun vs H1 s1 w1 => ?_
  obtain ⟨F1, r1, t1, f1⟩ := w1.reps
  intro y dy hy hdy ne
  have s2 : Same H1 (upd (upd H1 dy (.own y)) y (.ins C dy [])) := fun b o q => by rw [upd_ne (ne_of_none q hy), upd_ne (ne_of_none q hdy)]; exact q
  have ny : ¬ F1 y := fun z => t1 y z hy
  refine ⟨y, dy, C, vs, dsOf rs, F1, by rw [List.append_nil], by rw [w1.length]; exact hl _ _ ers, hC, upd_same, r1.same s2, fun a z => ?_, ny, ?_⟩
  · have := t1 a z
    cases ea : H1 a with
    | none => exact absurd ea this
    | some o => rw [s2 a o ea]; exact fun z => by cases z
  · split at er <;> (first | (cases er; done) | skip)
    rename_i d l ec
    cases er
    rw [ec]
    intro H' kp ⟨F', o, nF, tF, bF⟩
    refine ⟨rfl, ?_⟩
    have s3 : Same H1 H' := fun b o q => by
      refine kp b o (fun z => ?_) (s2 b o q)
      rw [z, hy] at q; cases q
    have new : ∀ b, upd (upd H1 dy (.own y)) y (.ins C dy []) b = none → H1 b = none := fun b z => s2.free z
    refine kk _ _ (s1.trans s3) ⟨fun b => b = y ∨ F' b, [y], o.rep (.inl rfl) (fun _ => .inr), fun b hb => ?_, fun b hb => ?_, .one o nF (fun _ => .inr) (.inl rfl), fun b hb => ?_⟩
    · rcases hb with rfl | hb
      · obtain ⟨o', e', _⟩ := o.there; rw [e']; exact fun z => by cases z
      · exact tF b hb
    · rcases hb with rfl | hb
      · exact .inl (s1.free hy)
      · rcases bF b hb with h | h
        · exact .inl (s1.free (new b h))
        · exact f1 b h
    · rw [List.mem_singleton] at hb; subst hb; exact s1.free hy
end
end VL

namespace VL
open PySem PySem.Spec L2 PyProof.Rows

/-! ### raise C(e, ..), C an own error with an __init__ of its own -/
section
variable {X : Cx} {W : WX} {Cl : ClsT} {p pos pos2 : Pos} {e : Expr} {es : List Expr}
def vRaise (c : Nat) (fs : List Str) (fa : VA) : VS := fun env => match fa env with
  | some rs => if rs.length = fs.length ∧ rs.length ≤ 900 ∧ noMutL (dsOf rs) = true then .ex env c (fs.zip (dsOf rs)).reverse else .no
  | none => .no
theorem noMut_zip {fs : List Str} {ds : List D} (h : noMutL ds = true) : ∀ q ∈ (fs.zip ds).reverse, noMut q.2 = true := fun q hq => by
  rw [List.mem_reverse] at hq
  exact noMutL_mem h q.2 (List.of_mem_zip hq).2
theorem vs_raise {c : Nat} {x : Str} {fs : List Str} {fa : VA} (hc : X.calm = true) (tk : Takes X W) (E : ErrI X.prog X.w X.K X.mg X.base Cl c x fs) (hr : Room 2 X.A) (ha : VAok X Cl (e :: es) fa) (hg : Gl X x := by rfl)
    (hdb : (x == ("__debug__" : Str)) = false := by decide) (he : starEach (e :: es) X.env = (false, eval e X.env) :: starEach es X.env := by rfl) (hpl : (backTo pos (starEach es X.env)).any (·.1) = false := by rfl) :
    VSok X W Cl (.Raise (some (.Call (.Name x p) (e :: es) [] pos)) none pos2) (vRaise c fs fa) := by
  obtain ⟨C, fI, fd, hC, hm, T, EC, iC, tI, hb, hno, F⟩ := E
  obtain ⟨ta, pa, qa⟩ := ha
  refine ⟨_, ps_raise hc tk (pmk_oex T iC tI F hr hb .nil passL hg hm pa hdb he hpl), fun H0 G D σ H env Fs ow S k => ?_⟩
  unfold vRaise at k
  split at k <;> (first | (exact k.elim; done) | skip)
  rename_i rs ers
  split at k <;> (first | (exact k.elim; done) | skip)
  rename_i hcc
  obtain ⟨c1, c2, c3⟩ := hcc
  refine qa _ _ _ _ _ _ _ _ _ S ers fun vs H1 s1 w1 => ?_
  obtain ⟨F1, r1, t1, f1⟩ := w1.reps
  have hl : vs.length = rs.length := w1.length
  refine ⟨by omega, fun a ha => ?_⟩
  rw [List.append_nil]
  refine ⟨a, vs, rfl, by omega, upd_same, fun dx hd ne => ?_⟩
  have hd1 : H1 dx = none := by rw [upd_ne ne] at hd; exact hd
  refine ⟨rfl, dx, _, upd_same, by rw [upd_ne ne]; exact upd_same, hd1, ?_⟩
  have s2 : Same H1 (upd (del (upd (upd (upd H1 a (exo a C none)) dx (exd dx (fs.zip vs).reverse)) a (exo a C (some dx))) a) dx (.xd (fs.zip vs).reverse)) := fun b o q => by
    rw [upd_ne (ne_of_none q hd1), del_ne (ne_of_none q ha), upd_ne (ne_of_none q ha), upd_ne (ne_of_none q hd1), upd_ne (ne_of_none q ha)]; exact q
  refine k σ _ Fs ow _ _ (.of_same (s1.trans s2) fun _ h => .inl h) (S.go (s1.trans s2)) ⟨C, hC, rfl, noMut_zip c3, .inr ⟨dx, _, rfl, upd_same, ?_⟩⟩
  exact repF_reverse (repF_zip ((reps_pure r1 c3).same s2))
end
end VL

namespace VL
open PySem PySem.Spec L2 PyProof.Rows

/-! ### expressions that may raise -/
inductive Re where | val (r : Rv) | ex (c : Nat) (fs : List (Str × D)) | no
abbrev VX := Ev → Re
def ReOk (K : PySem.W.Frag) (Cl : ClsT) (W : WX) (σ : L2.St) (H : Hp) (Fs : Nat → ASet) (Q : VK) : Re → Prop
  | .val r => ∀ v H', Same H H' → ValOk K Cl H H' Fs v r → Q v H'
  | .ex c fs => ∀ cls d H', Same H H' → ExcIs K Cl H' cls d c fs → W cls d σ H'
  | .no => False
def VXok (X : Cx) (W : WX) (Cl : ClsT) (e : Expr) (f : VX) : Prop := ∃ t, PE X e t ∧ ∀ (H0 : Hp) (G : ASet) (σ : L2.St) (H : Hp) (env : Ev) (Fs : Nat → ASet) (ow : Nat → List Addr) (Q : VK), StOk X.K Cl H0 G σ H env Fs ow → ReOk X.K Cl W σ H Fs Q (f env) → t σ H Q
def xV (f : VE) : VX := fun env => match f env with
  | some r => .val r
  | none => .no
def xCall (cf : CF) (fa : VA) : VX := fun env => match fa env with
  | some rs => (match cf (dsOf rs) with
    | .ok d l => .val (nrm ⟨d, l, alOf rs⟩)
    | .ex c fs => .ex c fs
    | .no => .no)
  | none => .no
section
variable {X : Cx} {W : WX} {Cl : ClsT} {p pos : Pos} {e : Expr} {es : List Expr}
theorem vx_of {f : VE} (h : VEok X Cl e f) : VXok X W Cl e (xV f) := by
  obtain ⟨t, p, q⟩ := h
  refine ⟨t, p, fun H0 G σ H env Fs ow Q S k => ?_⟩
  unfold xV at k
  split at k
  · rename_i r er; exact q _ _ _ _ _ _ _ _ _ S er k
  · exact k.elim
theorem vx_callH {x : Str} {k n : Nat} {ps : List Str} {cf : CF} {fa : VA} (tk : Takes X W) (F : FnH X.prog X.w X.K X.mg X.base Cl k n x ps cf) (hr : Room k X.A)
    (hn : (e :: es).length = n) (ha : VAok X Cl (e :: es) fa) (hl : ∀ env rs, fa env = some rs → rs.length = n) (hg : Gl X x := by rfl)
    (hdb : (x == ("__debug__" : Str)) = false := by decide) (he : starEach (e :: es) X.env = (false, eval e X.env) :: starEach es X.env := by rfl) (hpl : (backTo pos (starEach es X.env)).any (·.1) = false := by rfl) : VXok X W Cl (.Call (.Name x p) (e :: es) [] pos) (xCall cf fa) := by
  obtain ⟨f, fd, hm, hk, hb, G⟩ := F
  obtain ⟨ta, pa, qa⟩ := ha
  refine ⟨_, pe_callS G hr hg hm hk hb (fun σ => passAt tk σ) pa hdb he hpl, fun H0 G σ H env Fs ow Q S kk => ?_⟩
  unfold xCall at kk
  split at kk <;> (first | (exact kk.elim; done) | skip)
  rename_i rs ers
  refine qa _ _ _ _ _ _ _ _ _ S ers fun vs H1 s1 w1 => ?_
  obtain ⟨F1, r1, t1, f1⟩ := w1.reps
  refine ⟨dsOf rs, F1, by rw [w1.length]; exact hl _ _ ers, r1, t1, ?_⟩
  cases ec : cf (dsOf rs) with
  | ok d l =>
    rw [ec] at kk
    exact fun v H' s2 w2 => kk v H' (s1.trans s2) (.nrm (ret_val s1 f1 w2))
  | ex c fs =>
    rw [ec] at kk
    exact fun cls d H' s2 y => kk cls d H' (s1.trans s2) y
  | no => rw [ec] at kk; exact kk.elim
/-! statements over them -/
def xSet (i : Nat) (f : VX) : VS := fun env => match f env with
  | .val r => if i < env.length then .nx (put i r env) else .no
  | .ex c fs => .ex env c fs
  | .no => .no
theorem exc_on {H0 H H' : Hp} {G : ASet} {D : Ends} {σ : L2.St} {env : Ev} {Fs : Nat → ASet} {ow : Nat → List Addr} {c : Nat} {fs : List (Str × VL.D)} (S : StOk X.K Cl H0 G σ H env Fs ow) (k : EndOk X.K Cl W H0 G D H ow (.ex env c fs)) {cls : Value} {d : Option Addr} (s : Same H H') (y : ExcIs X.K Cl H' cls d c fs) : W cls d σ H' :=
  k σ H' Fs ow cls d (.of_same s fun _ h => .inl h) (S.go s) y
theorem xs_set (i : Nat) {x : Str} {pos' : Pos} {f : VX} (hN : X.N.Nodup) (h : VXok X W Cl e f) (hi : X.N[i]? = some x := by rfl) (hx : Loc X.env.scope x := by first | exact Or.inl rfl | exact Or.inr rfl) (hs : swapsWith e (some (.Name x pos')) pos.line X.env = pure false := by rfl) (hf : X.fn x = true ∨ X.env.scope.names.lookup x = some .local := by first | exact .inl rfl | exact .inr rfl) : VSok X W Cl (.Assign [.Name x pos'] e pos) (xSet i f) := by
  obtain ⟨t, p, q⟩ := h
  refine ⟨_, ps_set (i := i) hN hi hx p hs hf, fun H0 G D σ H env Fs ow S k => ?_⟩
  refine q _ _ _ _ _ _ _ _ S ?_
  unfold xSet at k
  cases er : f env with
  | val r =>
    rw [er] at k
    dsimp only at k
    split at k
    · rename_i hl
      intro v H1 s1 w1
      obtain ⟨Fs', ow', h1, h2⟩ := S.put hl s1 w1
      exact k _ _ _ _ h1 h2
    · exact k.elim
  | ex c fs => rw [er] at k; exact fun cls d H' s y => exc_on S k s y
  | no => rw [er] at k; exact k.elim
def xDrop (f : VX) : VS := fun env => match f env with
  | .val _ => .nx env
  | .ex c fs => .ex env c fs
  | .no => .no
theorem xs_expr {f : VX} (h : VXok X W Cl e f) (hs : swapsWith e none pos.line X.env = pure false := by rfl) : VSok X W Cl (.Expr e pos) (xDrop f) := by
  obtain ⟨t, p, q⟩ := h
  refine ⟨_, ps_expr p hs, fun H0 G D σ H env Fs ow S k => ?_⟩
  refine q _ _ _ _ _ _ _ _ S ?_
  unfold xDrop at k
  cases er : f env with
  | val r => rw [er] at k; exact fun v H1 s1 w1 => k σ H1 Fs ow (.of_same s1 fun _ h => .inl h) (S.go s1)
  | ex c fs => rw [er] at k; exact fun cls d H' s y => exc_on S k s y
  | no => rw [er] at k; exact k.elim
def xRet (f : VX) : VS := fun env => match f env with
  | .val r => .ret r.d r.l
  | .ex c fs => .ex env c fs
  | .no => .no
theorem xs_ret {f : VX} (h : VXok X W Cl e f) : VSok X W Cl (.Return (some e) pos) (xRet f) := by
  obtain ⟨t, p, q⟩ := h
  refine ⟨_, ps_ret p, fun H0 G D σ H env Fs ow S k => ?_⟩
  refine q _ _ _ _ _ _ _ _ S ?_
  unfold xRet at k
  cases er : f env with
  | val r => rw [er] at k; exact fun v H1 s1 w1 => k v H1 (fun a o e _ => s1 a o e) (.of S w1)
  | ex c fs => rw [er] at k; exact fun cls d H' s y => exc_on S k s y
  | no => rw [er] at k; exact k.elim
end
end VL

namespace VL
open PySem PySem.Spec L2 PyProof.Rows

/-! ### methods that may raise -/
section
variable {X : Cx} {W : WX} {Cl : ClsT} {pos apos : Pos} {o e : Expr} {es : List Expr}
/-- what is asked of o.m(e, ..), the errors told at the slots as they are -/
def tMethW (C : Addr) (m : Str) (sp : Sp) (W : WX) (to : TE) (ta : TA) : TE := fun σ H Q => to σ H fun x H1 => ∃ a dx fs, x = .ref a ∧ H1 a = some (.ins C dx fs) ∧ fs.lookup m = none ∧ ta σ H1 fun vs H2 => sp (x :: vs) H2 Q (WE W σ)
theorem pe_methW {C f : Addr} {m : Str} {fd : FuncData} {ps : List Str} {sp : Sp} {k : Nat} {to : TE} {ta : TA} {pl : Sem Bool} (tk : Takes X W) (po : PE X o to) (c : Cls X.K C) (hm : Meth X.K C m f) (F : FnOk X.prog X.w X.K X.mg X.base (L2.CX X.prog X.w) k f fd ps sp) (hr : Room k X.A) (hb : Binds X.K fd ps [])
    (pa : PA X (e :: es) ta) (hst : starEach (e :: es) X.env = (false, eval e X.env) :: starEach es X.env) (hpl : (backTo pos (starEach es X.env)).any (·.1) = false)
    (ht : eval (.Call (.Attribute o m apos) (e :: es) [] pos) X.env = (do
      let ov ← eval o X.env
      standAt apos.atName
      let (f, first) ← holding [ov] (getMethod ov m pl)
      callWith pos f first (backTo pos (starEach (e :: es) X.env)) (backToKw pos (keywordEach [] X.env)))) :
    PE X (.Call (.Attribute o m apos) (e :: es) [] pos) (tMethW C m sp W to ta) :=
  ⟨fun pins s σ H Q I h => PySem.W.methodCall_KW (pl := pl) (thn (po.run pins s σ H _ I h) fun u s1 ⟨x, H1, I1, rx, a, dx, fs, ex, ea, l, q⟩ => by
    subst ex
    obtain rfl : u = Value.ref a := rx
    exact getmeth_ok I1 ea c hm l (PySem.W.callWith_K (first := [.ref a]) (h₀ := X.base) I.ok.mod.kin hm.kp (thn (pa.run pos pins s1 σ H1 _ I1 q) fun us s2 ⟨vs, H2, I2, r, q2⟩ =>
      ⟨I2.kIn, run_fnS (us := .ref a :: us) (vs := .ref a :: vs) (E := WE W) F hr hb (passAt tk σ) I2 (.cons rfl r) q2⟩) hst hpl)) ht⟩
theorem pe_methW0 {C f : Addr} {m : Str} {fd : FuncData} {ps : List Str} {sp : Sp} {k : Nat} {to : TE} {pl : Sem Bool} (tk : Takes X W) (po : PE X o to) (c : Cls X.K C) (hm : Meth X.K C m f) (F : FnOk X.prog X.w X.K X.mg X.base (L2.CX X.prog X.w) k f fd ps sp) (hr : Room k X.A) (hb : Binds X.K fd ps [])
    (ht : eval (.Call (.Attribute o m apos) [] [] pos) X.env = (do
      let ov ← eval o X.env
      standAt apos.atName
      let (f, first) ← holding [ov] (getMethod ov m pl)
      callWith pos f first (backTo pos (starEach [] X.env)) (backToKw pos (keywordEach [] X.env)))) :
    PE X (.Call (.Attribute o m apos) [] [] pos) (tMethW C m sp W to tNil) :=
  ⟨fun pins s σ H Q I h => PySem.W.methodCall_KW (pl := pl) (thn (po.run pins s σ H _ I h) fun u s1 ⟨x, H1, I1, rx, a, dx, fs, ex, ea, l, q⟩ => by
    subst ex
    obtain rfl : u = Value.ref a := rx
    exact getmeth_ok I1 ea c hm l (PySem.W.callWith_K0 (first := [.ref a]) I1.kIn hm.kp (run_fnS (us := [.ref a]) (vs := [.ref a]) (E := WE W) F hr hb (passAt tk σ) I1 (.cons rfl .nil) q))) ht⟩
def xMeth (c : Nat) (m : Str) (cf : CF) (fo : VE) (fa : VA) : VX := fun env => match fo env with
  | some x => (match x.d with
    | .ins c' fs => if c' = c ∧ lookD m fs = none then (match fa env with
        | some rs => (match cf (x.d :: dsOf rs) with
          | .ok d l => .val (nrm ⟨d, l, x.al ++ alOf rs⟩)
          | .ex c fs => .ex c fs
          | .no => .no)
        | none => .no) else .no
    | _ => .no)
  | none => .no
theorem methX_end {K : PySem.W.Frag} {Hs H1 H2 : Hp} {σ : L2.St} {Fs : Nat → ASet} {v : V} {vs : List V} {x : Rv} {rs : List Rv} {cf : CF} {n : Nat} {Q : VK} (s1 : Same Hs H1) (w1 : ValOk K Cl Hs H1 Fs v x) (s2 : Same H1 H2) (w2 : ValsOk K Cl H1 H2 Fs vs rs) (hn : rs.length = n)
    (k : ReOk K Cl W σ Hs Fs Q (match cf (x.d :: dsOf rs) with
      | .ok d l => .val (nrm ⟨d, l, x.al ++ alOf rs⟩)
      | .ex c fs => .ex c fs
      | .no => .no)) : spV K Cl (n + 1) cf (v :: vs) H2 Q (WE W σ) := by
  have w : ValsOk K Cl Hs H2 Fs (v :: vs) (x :: rs) := ⟨H1, s1, s2, w1, w2⟩
  obtain ⟨F1, r1, t1, f1⟩ := w.reps
  have e1 : alOf (x :: rs) = x.al ++ alOf rs := by unfold alOf; rw [List.flatMap_cons]
  rw [e1] at f1
  refine ⟨dsOf (x :: rs), F1, by rw [w.length, List.length_cons, hn], r1, t1, ?_⟩
  have e2 : dsOf (x :: rs) = x.d :: dsOf rs := rfl
  rw [e2]
  cases ec : cf (x.d :: dsOf rs) with
  | ok d l => rw [ec] at k; exact fun v H' s3 w3 => k v H' (s1.trans (s2.trans s3)) (.nrm (ret_val (s1.trans s2) f1 w3))
  | ex c fs => rw [ec] at k; exact fun cls d H' s3 y => k cls d H' (s1.trans (s2.trans s3)) y
  | no => rw [ec] at k; exact k.elim
theorem vx_methH {k n c : Nat} {m : Str} {ps : List Str} {cf : CF} {fo : VE} {fa : VA} {pl : Sem Bool} (tk : Takes X W) (M : MethH X.prog X.w X.K X.mg X.base Cl k n c m ps cf) (hr : Room k X.A) (ho : VEok X Cl o fo) (ha : VAok X Cl (e :: es) fa) (hl : ∀ env rs, fa env = some rs → rs.length = n)
    (hst : starEach (e :: es) X.env = (false, eval e X.env) :: starEach es X.env := by rfl) (hpl : (backTo pos (starEach es X.env)).any (·.1) = false := by rfl)
    (ht : eval (.Call (.Attribute o m apos) (e :: es) [] pos) X.env = (do
      let ov ← eval o X.env
      standAt apos.atName
      let (f, first) ← holding [ov] (getMethod ov m pl)
      callWith pos f first (backTo pos (starEach (e :: es) X.env)) (backToKw pos (keywordEach [] X.env))) := by rfl) : VXok X W Cl (.Call (.Attribute o m apos) (e :: es) [] pos) (xMeth c m cf fo fa) := by
  obtain ⟨C, f, fd, hC, hk, hm, hb, F⟩ := M
  obtain ⟨to, po, qo⟩ := ho
  obtain ⟨ta, pa, qa⟩ := ha
  refine ⟨_, pe_methW tk po hk hm F hr hb pa hst hpl ht, fun H0 G σ H env Fs ow Q S kk => ?_⟩
  unfold xMeth at kk
  split at kk <;> (first | (exact kk.elim; done) | skip)
  rename_i x ex
  split at kk <;> (first | (exact kk.elim; done) | skip)
  rename_i c' fs ed
  split at kk <;> (first | (exact kk.elim; done) | skip)
  rename_i hc
  obtain ⟨rfl, hlk⟩ := hc
  split at kk <;> (first | (exact kk.elim; done) | skip)
  rename_i rs ers
  refine qo _ _ _ _ _ _ _ _ _ S ex fun v H1 s1 w1 => ?_
  obtain ⟨F0, r0⟩ := w1.rep
  rw [ed] at r0
  obtain ⟨a, dx, xs, rfl, h1, rf⟩ := ins_of r0 hC
  refine ⟨a, dx, xs, rfl, h1, repF_none rf hlk, ?_⟩
  refine qa _ _ _ _ _ _ _ _ _ (S.go s1) ers fun vs H2 s2 w2 => ?_
  exact methX_end s1 w1 s2 w2 (hl _ _ ers) kk
theorem vx_methH0 {k c : Nat} {m : Str} {ps : List Str} {cf : CF} {fo : VE} {pl : Sem Bool} (tk : Takes X W) (M : MethH X.prog X.w X.K X.mg X.base Cl k 0 c m ps cf) (hr : Room k X.A) (ho : VEok X Cl o fo)
    (ht : eval (.Call (.Attribute o m apos) [] [] pos) X.env = (do
      let ov ← eval o X.env
      standAt apos.atName
      let (f, first) ← holding [ov] (getMethod ov m pl)
      callWith pos f first (backTo pos (starEach [] X.env)) (backToKw pos (keywordEach [] X.env))) := by rfl) : VXok X W Cl (.Call (.Attribute o m apos) [] [] pos) (xMeth c m cf fo (fun _ => some [])) := by
  obtain ⟨C, f, fd, hC, hk, hm, hb, F⟩ := M
  obtain ⟨to, po, qo⟩ := ho
  refine ⟨_, pe_methW0 tk po hk hm F hr hb ht, fun H0 G σ H env Fs ow Q S kk => ?_⟩
  unfold xMeth at kk
  split at kk <;> (first | (exact kk.elim; done) | skip)
  rename_i x ex
  split at kk <;> (first | (exact kk.elim; done) | skip)
  rename_i c' fs ed
  split at kk <;> (first | (exact kk.elim; done) | skip)
  rename_i hc
  obtain ⟨rfl, hlk⟩ := hc
  refine qo _ _ _ _ _ _ _ _ _ S ex fun v H1 s1 w1 => ?_
  obtain ⟨F0, r0⟩ := w1.rep
  rw [ed] at r0
  obtain ⟨a, dx, xs, rfl, h1, rf⟩ := ins_of r0 hC
  exact ⟨a, dx, xs, rfl, h1, repF_none rf hlk, methX_end s1 w1 (Same.refl _) (vs := []) (rs := []) trivial rfl kk⟩
end
end VL

namespace VL
open PySem PySem.Spec L2 PyProof.Rows

/-! ### making an instance where the __init__ may raise: positional values, keywords, defaults in one -/
section
variable {X : Cx} {W : WX} {Cl : ClsT} {pos p : Pos} {e : Expr} {es : List Expr} {kws : List Keyword}
theorem run_makeW {pins : List (Addr × Obj)} {σ : L2.St} {H : Hp} {s : Shared} {Q : VK} {C f : Addr} {fd : FuncData} {ps : List Str} {sp : Sp} {k : Nat} {us : List Value} {kw : List (Str × Value)} {allU : Value → List Value} {allV : V → List V} (tk : Takes X W) (M : Mk X.K C f)
    (F : FnOk X.prog X.w X.K X.mg X.base (L2.CX X.prog X.w) k f fd ps sp) (hr : Room (k + 1) X.A) (I : Inv X pins σ H s) (hb : ∀ (s : Shared) (x : Addr), X.K.In s.heap → BindsTo s fd ⟨.ref x :: us, kw⟩ (ps.zip (allU (.ref x)))) (rv : ∀ x, Vals (allV (.ref x)) (allU (.ref x)))
    (h : ∀ x dx, H x = none → H dx = none → dx ≠ x → sp (allV (.ref x)) (upd (upd H dx (.own x)) x (.ins C dx [])) (fun v H2 => v = .non ∧ Q (.ref x) H2) (WE W σ)) : wpAny (model X.prog X.w) X.A (call (.ref C) us kw) (EP X pins σ Q) X.xe s := by
  have big := I.hok.fresh (Nat.le_succ s.heap.objs.size)
  have J := Inv.made (C := C) I
  have q0 := h _ _ big (I.hok.fresh (Nat.le_refl _)) (Nat.ne_of_lt (Nat.lt_succ_self _))
  refine wpAny_call (make_map (f := f) I.kIn M.makes M.init (beq_iff_eq.mp M.fn) (codeAny_mono (F.run _ X.stack _ _ ⟨_ :: us, kw⟩ _ _ _ (WE W σ) (hr.make C us kw) (J.env0.make C us kw) (hb _ _ J.kIn) (rv _) q0) fun out s' back => ?_))
  match out, back with
  | .error er, back => exact passAt tk σ pins _ _ er s' J back
  | .ok (.ret u), back =>
    obtain ⟨v, H', I3, r3, ev, q3⟩ := J.after back
    subst ev
    exact ⟨r3, ⟨V.ref (s.heap.objs.size + 1), H', I3, rfl, q3⟩⟩
  | .ok .next, back => exact back.elim
  | .ok .brk, back => exact back.elim
  | .ok .cont, back => exact back.elim
/-- C(e, ..), defaults filling up -/
def tMakeW (C : Addr) (sp : Sp) (dvs : List V) (W : WX) (ta : TA) : TE := fun σ H Q => ta σ H fun vs H1 => ∀ x dx, H1 x = none → H1 dx = none → dx ≠ x → sp (.ref x :: (vs ++ dvs)) (upd (upd H1 dx (.own x)) x (.ins C dx [])) (fun v H2 => v = .non ∧ Q (.ref x) H2) (WE W σ)
theorem pe_makeW {x : Str} {C f : Addr} {fd : FuncData} {ps : List Str} {sp : Sp} {k : Nat} {ta : TA} {ds : List Value} {dvs : List V} (tk : Takes X W) (M : Mk X.K C f) (F : FnOk X.prog X.w X.K X.mg X.base (L2.CX X.prog X.w) k f fd ps sp) (hr : Room (k + 1) X.A) (hg : Gl X x) (hm : X.mg x = some (.ref C)) (hb : Binds X.K fd ps ds) (hd : Vals dvs ds)
    (pa : PA X (e :: es) ta) (hdb : (x == ("__debug__" : Str)) = false) (he : starEach (e :: es) X.env = (false, eval e X.env) :: starEach es X.env) (hpl : (backTo pos (starEach es X.env)).any (·.1) = false) :
    PE X (.Call (.Name x p) (e :: es) [] pos) (tMakeW C sp dvs W ta) :=
  ⟨fun pins s σ H Q I h => wpAny_Call_Name_kw (ld_glob I hg hm (PySem.W.callWith_K (h₀ := X.base) I.ok.mod.kin M.kp (thn (pa.run pos pins s σ H _ I h) fun us s1 ⟨vs, H1, I1, r, q⟩ => ⟨I1.kIn, by
    have hl := F.len _ _ _ _ (q _ _ (I1.hok.fresh (Nat.le_succ _)) (I1.hok.fresh (Nat.le_refl _)) (Nat.ne_of_lt (Nat.lt_succ_self _)))
    rw [List.length_cons, List.length_append] at hl
    refine run_makeW (kw := []) (allU := fun v => v :: (us ++ ds)) (allV := fun v => v :: (vs ++ dvs)) tk M F hr I1 (fun s x hk => ?_) (fun x => .cons rfl (r.append hd)) q
    exact hb s (.ref x :: us) hk (by
      have h1 := Paired.length r
      have h2 := Paired.length hd
      rw [List.length_append, List.length_cons]; omega)⟩) he hpl) hdb)⟩
/-- the class x with number c, made by its __init__ from n values; dds: the defaults behind them -/
def MkD (P : Program) (w : World) (K : PySem.W.Frag) (mg : Str → Option Value) (base : Heap) (Cl : ClsT) (k n c : Nat) (x : Str) (ps : List Str) (dds : List D) (cf : CF) : Prop :=
  ∃ C f fd ds dvs, Cl c = some C ∧ mg x = some (.ref C) ∧ Mk K C f ∧ Binds K fd ps ds ∧ Vals dvs ds ∧ (∀ H, Reps K Cl H (fun _ => False) dvs dds) ∧ FnOk P w K mg base (L2.CX P w) k f fd ps (spMk K Cl (n + dds.length) c cf)
def xMake (cf : CF) (dds : List D) (fa : VA) : VX := fun env => match fa env with
  | some rs => (match cf (dsOf rs ++ dds) with
    | .ok d _ => .val ⟨d, 1, alOf rs⟩
    | .ex c fs => .ex c fs
    | .no => .no)
  | none => .no
theorem vx_make {k n c : Nat} {x : Str} {ps : List Str} {dds : List D} {cf : CF} {fa : VA} (tk : Takes X W) (M : MkD X.prog X.w X.K X.mg X.base Cl k n c x ps dds cf) (hr : Room (k + 1) X.A) (ha : VAok X Cl (e :: es) fa) (hl : ∀ env rs, fa env = some rs → rs.length = n) (hg : Gl X x := by rfl)
    (hdb : (x == ("__debug__" : Str)) = false := by decide) (he : starEach (e :: es) X.env = (false, eval e X.env) :: starEach es X.env := by rfl) (hpl : (backTo pos (starEach es X.env)).any (·.1) = false := by rfl) : VXok X W Cl (.Call (.Name x p) (e :: es) [] pos) (xMake cf dds fa) := by
  obtain ⟨C, f, fd, ds, dvs, hC, hm, hk, hb, hd, hdd, F⟩ := M
  obtain ⟨ta, pa, qa⟩ := ha
  refine ⟨_, pe_makeW tk hk F hr hg hm hb hd pa hdb he hpl, fun H0 G σ H env Fs ow Q S kk => ?_⟩
  unfold xMake at kk
  split at kk <;> (first | (exact kk.elim; done) | skip)
  rename_i rs ers
  refine qa _ _ _ _ _ _ _ _ _ S ers fun vs H1 s1 w1 => ?_
  obtain ⟨F1, r1, t1, f1⟩ := w1.reps
  intro y dy hy hdy ne
  have s2 : Same H1 (upd (upd H1 dy (.own y)) y (.ins C dy [])) := fun b o q => by rw [upd_ne (ne_of_none q hy), upd_ne (ne_of_none q hdy)]; exact q
  have ny : ¬ F1 y := fun z => t1 y z hy
  refine ⟨y, dy, C, vs ++ dvs, dsOf rs ++ dds, F1, rfl, by rw [List.length_append, w1.length, hl _ _ ers, (hdd H).length], hC, upd_same, (r1.same s2).append ((hdd _).mono fun _ z => z.elim), fun a z => ?_, ny, ?_⟩
  · have := t1 a z
    cases ea : H1 a with
    | none => exact absurd ea this
    | some o => rw [s2 a o ea]; exact fun z => by cases z
  · have same3 : ∀ H', (∀ a o, a ≠ y → upd (upd H1 dy (.own y)) y (.ins C dy []) a = some o → H' a = some o) → Same H1 H' := fun H' kp b o q => by
      refine kp b o (fun z => ?_) (s2 b o q)
      rw [z, hy] at q; cases q
    cases ec : cf (dsOf rs ++ dds) with
    | no => rw [ec] at kk; exact kk.elim
    | ex c fs =>
      rw [ec] at kk
      exact fun cls d H' kp yy => kk cls d H' (s1.trans (same3 H' kp)) yy
    | ok d l =>
      rw [ec] at kk
      intro H' kp ⟨F', o, nF, tF, bF⟩
      refine ⟨rfl, ?_⟩
      have s3 := same3 H' kp
      have new : ∀ b, upd (upd H1 dy (.own y)) y (.ins C dy []) b = none → H1 b = none := fun b z => s2.free z
      refine kk _ _ (s1.trans s3) ⟨fun b => b = y ∨ F' b, [y], o.rep (.inl rfl) (fun _ => .inr), fun b hb => ?_, fun b hb => ?_, .one o nF (fun _ => .inr) (.inl rfl), fun b hb => ?_⟩
      · rcases hb with rfl | hb
        · obtain ⟨o', e', _⟩ := o.there; rw [e']; exact fun z => by cases z
        · exact tF b hb
      · rcases hb with rfl | hb
        · exact .inl (s1.free hy)
        · rcases bF b hb with h | h
          · exact .inl (s1.free (new b h))
          · exact f1 b h
      · rw [List.mem_singleton] at hb; subst hb; exact s1.free hy
end
end VL

namespace VL
open PySem PySem.Spec L2 PyProof.Rows

/-! ### arguments and tuples that may raise -/
inductive Ra where | vals (rs : List Rv) | ex (c : Nat) (fs : List (Str × D)) | no
abbrev VXA := Ev → Ra
def RaOk (K : PySem.W.Frag) (Cl : ClsT) (W : WX) (σ : L2.St) (H : Hp) (Fs : Nat → ASet) (Q : List V → Hp → Prop) : Ra → Prop
  | .vals rs => ∀ vs H', Same H H' → ValsOk K Cl H H' Fs vs rs → Q vs H'
  | .ex c fs => ∀ cls d H', Same H H' → ExcIs K Cl H' cls d c fs → W cls d σ H'
  | .no => False
def VXAok (X : Cx) (W : WX) (Cl : ClsT) (es : List Expr) (f : VXA) : Prop := ∃ t, PA X es t ∧ ∀ (H0 : Hp) (G : ASet) (σ : L2.St) (H : Hp) (env : Ev) (Fs : Nat → ASet) (ow : Nat → List Addr) (Q : List V → Hp → Prop), StOk X.K Cl H0 G σ H env Fs ow → RaOk X.K Cl W σ H Fs Q (f env) → t σ H Q
def xCons (f : VX) (g : VXA) : VXA := fun env => match f env with
  | .val r => (match g env with
    | .vals rs => .vals (r :: rs)
    | .ex c fs => .ex c fs
    | .no => .no)
  | .ex c fs => .ex c fs
  | .no => .no
section
variable {X : Cx} {W : WX} {Cl : ClsT} {e : Expr} {es : List Expr} {pos : Pos}
theorem xa_nil : VXAok X W Cl [] (fun _ => .vals []) := ⟨_, pa_nil, fun H0 G σ H env Fs ow Q S k => k [] H (Same.refl _) trivial⟩
theorem xa_cons {f : VX} {g : VXA} (ha : VXok X W Cl e f) (hr : VXAok X W Cl es g) (hs : starEach (e :: es) X.env = (false, eval e X.env) :: starEach es X.env := by rfl) : VXAok X W Cl (e :: es) (xCons f g) := by
  obtain ⟨ta, pa, qa⟩ := ha
  obtain ⟨tr, pr, qr⟩ := hr
  refine ⟨_, pa_cons pa pr hs, fun H0 G σ H env Fs ow Q S k => ?_⟩
  refine qa _ _ _ _ _ _ _ _ S ?_
  unfold xCons at k
  cases ef : f env with
  | val r =>
    rw [ef] at k
    intro v H1 s1 w1
    refine qr _ _ _ _ _ _ _ _ (S.go s1) ?_
    cases eg : g env with
    | vals rs => rw [eg] at k; exact fun vs H2 s2 w2 => k _ _ (s1.trans s2) ⟨H1, s1, s2, w1, w2⟩
    | ex c fs => rw [eg] at k; exact fun cls d H2 s2 y => k cls d H2 (s1.trans s2) y
    | no => rw [eg] at k; exact k.elim
  | ex c fs => rw [ef] at k; exact k
  | no => rw [ef] at k; exact k.elim
def xTup (g : VXA) : VX := fun env => match g env with
  | .vals rs => if rs.length ≤ 1000 then .val (nrm ⟨.tup (dsOf rs), 0, alOf rs⟩) else .no
  | .ex c fs => .ex c fs
  | .no => .no
theorem vx_tup {x1 : Nat} {g : VXA} (h : VXAok X W Cl es g) : VXok X W Cl (.Tuple es x1 pos) (xTup g) := by
  obtain ⟨t, p, q⟩ := h
  refine ⟨_, pe_tup p, fun H0 G σ H env Fs ow Q S k => ?_⟩
  refine q _ _ _ _ _ _ _ _ S ?_
  unfold xTup at k
  cases eg : g env with
  | vals rs =>
    rw [eg] at k
    dsimp only at k
    split at k
    · rename_i hl
      intro vs H1 s1 w
      refine ⟨by rw [w.length]; exact small_line hl, fun a ha => ?_⟩
      obtain ⟨F, r, t, f⟩ := w.reps
      exact k _ _ (s1.trans (same_upd ha)) (new_tup r t f ha)
    · exact k.elim
  | ex c fs => rw [eg] at k; exact k
  | no => rw [eg] at k; exact k.elim
/-! ### a call alone in an __init__ -/
theorem is_exprX {f : VX} (h : VXok X W Cl e f) (hs : swapsWith e none pos.line X.env = pure false := by rfl) : ISok X W Cl (.Expr e pos) (xDrop f) := by
  obtain ⟨t, p, q⟩ := h
  refine ⟨_, ps_expr p hs, fun H0 G D σ H env Fs ow S k => ?_⟩
  refine q _ _ _ _ _ _ _ _ S ?_
  unfold xDrop at k
  cases er : f env with
  | val r => rw [er] at k; exact fun v H1 s1 w1 => k H1 Fs ow (.of_same s1 fun _ h => .inl h) (S.go s1)
  | ex c fs => rw [er] at k; exact fun cls d H' s y => k H' Fs ow cls d (.of_same s fun _ h => .inl h) (S.go s) y
  | no => rw [er] at k; exact k.elim
end
end VL

namespace VL
open PySem PySem.Spec L2 PyProof.Rows

/-! ### errors that are handled: their fields, isinstance of them -/
/-- what is noted of the errors that are handled is so -/
def HanIn (X : Cx) (Cl : ClsT) : Prop := ∀ a c d, Cl.han a = some (c, d) → ∃ (C : Addr) (oe : Obj) (vs : Array Value), Cl c = some C ∧ (a, oe) ∈ X.pn ∧ oe.cls = .ref C ∧ oe.dict = d ∧ oe.data = .fields vs
theorem hanIn0 {X : Cx} {Cl : ClsT} (nh : ∀ a, Cl.han a = none) : HanIn X Cl := fun a c d h => by rw [nh] at h; cases h
/-- an error of class C with the dict's facts df: a value or handled -/
def ErAt (X : Cx) (H : Hp) (a C : Addr) (d : Option (List (Str × V))) : Prop :=
  (∃ dx, H a = some (exo a C dx) ∧ (∀ fs, d = some fs → ∃ b, dx = some b ∧ H b = some (exd b fs)) ∧ (d = none → dx = none)) ∨
  (∃ (oe : Obj) (vs : Array Value) (dx : Option Addr), (a, oe) ∈ X.pn ∧ oe.cls = .ref C ∧ oe.dict = dx ∧ oe.data = .fields vs ∧ (∀ fs, d = some fs → ∃ b, dx = some b ∧ H b = some (.xd fs)) ∧ (d = none → dx = none))
section
variable {X : Cx} {pins : List (Addr × Obj)} {σ : L2.St} {H : Hp} {s : Shared}
theorem ErAt.inst {a C : Addr} {fs : List (Str × V)} (I : Inv X pins σ H s) (h : ErAt X H a C (some fs)) : ∃ (ox od : Obj) (mA : Str → Option Value), PySem.W.InstAt s.heap a ox C (some od) ∧ (∀ f, RelO (fs.lookup f) (mA f)) ∧ ∀ name, PySem.W.lookIn name od = some (mA name) := by
  rcases h with ⟨dx, h1, h2, _⟩ | ⟨oe, vs, dx, h1, h2, h3, h4, h5, _⟩
  · obtain ⟨b, rfl, q2⟩ := h2 fs rfl
    obtain ⟨t1, ho⟩ := exo_at I.hok h1
    obtain ⟨mA, hns, hr⟩ := exd_at I.hok q2
    obtain ⟨od, hod, hl⟩ := lookIn_ns hns
    exact ⟨_, od, mA, ⟨ho, rfl, rfl, hod⟩, hr, hl⟩
  · obtain ⟨b, rfl, q5⟩ := h5 fs rfl
    have hx : ObjOk X.prog X.w H s.heap b (.xd fs) := I.hok b _ q5
    obtain ⟨mA, hns, hr⟩ := hx
    obtain ⟨od, hod, hl⟩ := lookIn_ns hns
    obtain ⟨hget, _⟩ := I.pin (a, oe) (List.mem_append.mpr (.inl h1))
    obtain ⟨oc, oq, oda, osl⟩ := oe
    dsimp only at h2 h3 h4
    subst h2 h3 h4
    exact ⟨_, od, mA, ⟨hget, rfl, rfl, hod⟩, hr, hl⟩
theorem ErAt.inst0 {a C : Addr} (I : Inv X pins σ H s) (h : ErAt X H a C none) : ∃ ox : Obj, PySem.W.InstAt s.heap a ox C none := by
  rcases h with ⟨dx, h1, _, h3⟩ | ⟨oe, vs, dx, h1, h2, h3, h4, _, h6⟩
  · cases h3 rfl
    obtain ⟨t1, ho⟩ := exo_at I.hok h1
    exact ⟨_, ho, rfl, rfl, trivial⟩
  · cases h6 rfl
    obtain ⟨hget, _⟩ := I.pin (a, oe) (List.mem_append.mpr (.inl h1))
    obtain ⟨oc, oq, oda, osl⟩ := oe
    dsimp only at h2 h3 h4
    subst h2 h3 h4
    exact ⟨_, hget, rfl, rfl, trivial⟩
end
section
variable {X : Cx} {pos p : Pos} {e : Expr} {es : List Expr}
def tXfH (X : Cx) (f : Str) (te : TE) : TE := fun σ H Q => te σ H fun x H1 => ∃ (a C : Addr) (fs : List (Str × V)) (v : V), x = .ref a ∧ XfC X.K C ∧ PySem.W.findIn X.K (.ref C) f = some none ∧ ErAt X H1 a C (some fs) ∧ fs.lookup f = some v ∧ Q v H1
theorem pe_xfH {te : TE} {n : Str} (he : PE X e te) (hb : attributeBase e n X.env (eval e X.env) = eval e X.env := by rfl) : PE X (.Attribute e n pos) (tXfH X n te) := by
  refine ⟨fun pins s σ H Q I h => ?_⟩
  refine attr_of hb (thn (he.run pins s σ H _ I h) fun u s1 hh => ?_)
  obtain ⟨x, H1, I1, rx, a, C, fs, v, ex, T, hno, er, l, q⟩ := hh
  subst ex
  obtain rfl : u = Value.ref a := rx
  obtain ⟨ox, od, mA, J, hr, hl⟩ := er.inst I1
  obtain ⟨u, hu, ru⟩ := RelO.some_of (v := v) (o := mA n) (by rw [← l]; exact hr n)
  exact HandSPX.exc_get I1.kIn J T.ga T.gg T.exC (PySem.W.findObj_own T.hdC hno rfl (by rw [hl, hu])) (handed_of ru) ⟨v, H1, I1.tok _, ru, q⟩
/-- isinstance(e, c) and isinstance(e, (c, ..)) -/
def rIsH (X : Cx) : List V → Hp → VK → Prop := fun xs H Q => ∃ (a D : Addr) (d : Option (List (Str × V))) (c : V) (b : Bool), xs = [.ref a, c] ∧ ExcC X.K D ∧ ErAt X H a D d ∧
  ((∃ cv, (∀ u, RelV c u → u = cv) ∧ PySem.W.kitOne X.K (.ref D) cv = some b) ∨ ∃ (t : Addr) (cs : List V) (cvs : List Value), c = .ref t ∧ H t = some (.tup cs) ∧ (∀ us, Vals cs us → us = cvs) ∧ PySem.W.kitAny X.K (.ref D) cvs = some b) ∧ Q (.bl b) H
theorem call_isH : CallR X (.builtin "isinstance") (rIsH X) := by
  intro pins s σ H xs us Q I r h
  obtain ⟨a, D, d, c, b, rfl, C, er, hc, q⟩ := h
  cases r with
  | cons rx rr =>
    cases rr with
    | cons rt rr =>
      cases rr
      cases rx
      have J : ∃ ox od, PySem.W.InstAt s.heap a ox D od := by
        cases d with
        | none => obtain ⟨ox, J⟩ := er.inst0 I; exact ⟨ox, none, J⟩
        | some fs => obtain ⟨ox, od, _, J, _⟩ := er.inst I; exact ⟨ox, some od, J⟩
      obtain ⟨ox, od, J⟩ := J
      have KX := PySem.W.kitx_exc (x := a) (ox := ox) (od := od) (clsE C.hd) C.hg C.hk C.hs C.ha C.hn C.ht C.hm
      rcases hc with ⟨cv, hcv, e⟩ | ⟨t, cs, cvs, rfl, ht, hcv, e⟩
      · have ec := hcv _ rt
        subst ec
        exact PySem.W.kia_one KX I.kIn J e (fun z => nomatch z) fun tk => ⟨.bl b, H, I.kept (t' := tk) fun _ _ z => z, rfl, q⟩
      · cases rt
        have ho : ObjOk X.prog X.w H s.heap t (.tup cs) := I.hok t _ ht
        obtain ⟨hz, its, hv, o, ho, hoc, n, hod⟩ := ho
        have ei := hcv _ hv
        subst ei
        obtain ⟨oc, oq, oda, osl⟩ := o
        dsimp only at hoc hod
        subst hoc hod
        exact PySem.W.kia_tup KX I.kIn J ho e (fun z => nomatch z) fun tk => ⟨.bl b, H, I.kept (t' := tk) fun _ _ z => z, rfl, q⟩
end

/-! ### the rules -/
section
variable {X : Cx} {Cl : ClsT} {p pos : Pos} {e : Expr} {es : List Expr}
theorem erAt_val {K : PySem.W.Frag} {H : Hp} {F : ASet} {v : V} {c : Nat} {fs : List (Str × D)} {C : Addr} (hi : HanIn X Cl) (h : Rep K Cl H F v (.exc c fs)) (hC : Cl c = some C) : ∃ a d, v = .ref a ∧ ErAt X H a C d ∧ ((d = none ∧ fs = []) ∨ ∃ xs, d = some xs ∧ RepF K Cl H F xs fs) := by
  cases h with
  | exc0 h f c' => rw [hC] at c'; cases c'; exact ⟨_, none, rfl, .inl ⟨none, h, (fun _ z => by cases z), fun _ => rfl⟩, .inl ⟨rfl, rfl⟩⟩
  | exc h hd f fd c' r => rw [hC] at c'; cases c'; exact ⟨_, some _, rfl, .inl ⟨some _, h, (fun _ z => by cases z; exact ⟨_, rfl, hd⟩), fun z => by cases z⟩, .inr ⟨_, rfl, r⟩⟩
  | exh0 h =>
    obtain ⟨C', oe, vs, h1, h2, h3, h4, h5⟩ := hi _ _ _ h
    rw [hC] at h1; cases h1
    exact ⟨_, none, rfl, .inr ⟨oe, vs, none, h2, h3, h4, h5, (fun _ z => by cases z), fun _ => rfl⟩, .inl ⟨rfl, rfl⟩⟩
  | exh h hd r =>
    obtain ⟨C', oe, vs, h1, h2, h3, h4, h5⟩ := hi _ _ _ h
    rw [hC] at h1; cases h1
    exact ⟨_, some _, rfl, .inr ⟨oe, vs, some _, h2, h3, h4, h5, (fun _ z => by cases z; exact ⟨_, rfl, hd⟩), fun z => by cases z⟩, .inr ⟨_, rfl, r⟩⟩
theorem ve_xfH {n : Str} {cs : List Nat} {f : VE} (hi : HanIn X Cl) (hcs : ∀ c ∈ cs, ∃ C, Cl c = some C ∧ ExcC X.K C ∧ PySem.W.findIn X.K (.ref C) n = some none) (he : VEok X Cl e f) (hb : attributeBase e n X.env (eval e X.env) = eval e X.env := by rfl) : VEok X Cl (.Attribute e n pos) (vXf cs n f) := by
  obtain ⟨te, pe, qe⟩ := he
  refine ⟨_, pe_xfH pe hb, fun H0 G σ H env Fs ow rr Q S e k => ?_⟩
  unfold vXf at e
  split at e <;> (first | (cases e; done) | skip)
  rename_i x ex
  refine qe _ _ _ _ _ _ _ _ _ S ex fun v H1 s1 w1 => ?_
  obtain ⟨F, r1⟩ := w1.rep
  split at e <;> (first | (cases e; done) | skip)
  rename_i c fs ed
  split at e <;> (first | (cases e; done) | skip)
  rename_i hc
  split at e <;> (first | (cases e; done) | skip)
  rename_i d el
  split at e <;> (first | (cases e; done) | skip)
  rename_i hn
  cases e
  obtain ⟨C, hC, EC, hno⟩ := hcs c (by simpa using hc)
  rw [ed] at r1
  obtain ⟨a, dd, rfl, er, ⟨_, rfl⟩ | ⟨xs, rfl, rf⟩⟩ := erAt_val hi r1 hC
  · cases el
  · obtain ⟨u, hu, ru⟩ := repF_lookup rf el
    exact ⟨a, C, xs, u, rfl, excC_xf EC, hno, er, hu, k _ _ s1 (.pureV (ru.pure hn) hn)⟩
theorem isH_end {K : PySem.W.Frag} {H : Hp} {F : ASet} {v : V} {row : List (Nat × Bool)} {x : Rv} {r : Rv} (hi : HanIn X Cl) (h : Rep K Cl H F v x.d) (e : gIsE row x = some r) (hR : ∀ c b, row.lookup c = some b → ∃ C, Cl c = some C ∧ ExcC X.K C) :
    ∃ c fs b C a d, x.d = .exc c fs ∧ row.lookup c = some b ∧ r = ⟨.bl b, 2, []⟩ ∧ Cl c = some C ∧ ExcC X.K C ∧ v = .ref a ∧ ErAt X H a C d := by
  unfold gIsE at e
  split at e <;> (first | (cases e; done) | skip)
  rename_i c fs ed
  split at e <;> (first | (cases e; done) | skip)
  rename_i b eb
  cases e
  rw [ed] at h
  obtain ⟨C, hC, EC⟩ := hR c b eb
  obtain ⟨a, d, rfl, er, _⟩ := erAt_val hi h hC
  exact ⟨c, fs, b, C, a, d, ed, eb, rfl, hC, EC, rfl, er⟩
theorem ve_isEH {T : Str} {D : Addr} {row : List (Nat × Bool)} {a : Expr} {p2 : Pos} {f : VE} (hi : HanIn X Cl) (hm : X.mg "isinstance" = none) (hmT : X.mg T = some (.ref D)) (hR : KitRow X.K Cl (.ref D) row) (ha : VEok X Cl a f) (hg : Gl X "isinstance" := by rfl) (hgT : Gl X T := by rfl)
    (hdT : (T == ("__debug__" : Str)) = false := by decide)
    (hs : starEach [a, .Name T p2] X.env = (false, eval a X.env) :: starEach [.Name T p2] X.env := by rfl) (hs2 : starEach [.Name T p2] X.env = (false, eval (.Name T p2) X.env) :: starEach [] X.env := by rfl) (hpl : (backTo pos (starEach [.Name T p2] X.env)).any (·.1) = false := by rfl) :
    VEok X Cl (.Call (.Name "isinstance" p) [a, .Name T p2] [] pos) (v1 (gIsE row) f) := by
  obtain ⟨ta, pa, qa⟩ := ha
  refine ⟨_, pe_callB call_isH hg hm (by decide +kernel) (pa_cons pa (pa_cons (pe_glob (v := .ref D) hgT hmT rfl hdT) pa_nil hs2) hs) (by decide) (by decide) hs hpl, fun H0 G σ H env Fs ow r Q S e k => ?_⟩
  unfold v1 at e
  split at e <;> (first | (cases e; done) | skip)
  rename_i x ex
  refine qa _ _ _ _ _ _ _ _ _ S ex fun v H1 s1 w1 => ?_
  obtain ⟨F, rr⟩ := w1.rep
  obtain ⟨c, fs, b, C, a', d, ed, eb, rfl, hC, EC, rfl, er⟩ := isH_end hi rr e fun c b h => let ⟨C, h1, h2, _⟩ := hR c b h; ⟨C, h1, h2⟩
  obtain ⟨C', hC', _, hk⟩ := hR c b eb
  rw [hC] at hC'; cases hC'
  exact ⟨a', C, d, .ref D, b, rfl, EC, er, .inl ⟨.ref D, fun u ru => ru, hk⟩, k _ _ s1 (.pureV (.bl _) rfl)⟩
theorem ve_isEBH {T : Str} {tn : String} {row : List (Nat × Bool)} {a : Expr} {p2 : Pos} {f : VE} (hi : HanIn X Cl) (hm : X.mg "isinstance" = none) (hmT : X.mg T = none) (hR : KitRow X.K Cl (.type tn) row) (ha : VEok X Cl a f) (hT : bootBuiltins T = some (.type tn) := by decide +kernel) (hg : Gl X "isinstance" := by rfl) (hgT : Gl X T := by rfl)
    (hnT : T ≠ "__name__" := by decide) (hdT : (T == ("__debug__" : Str)) = false := by decide)
    (hs : starEach [a, .Name T p2] X.env = (false, eval a X.env) :: starEach [.Name T p2] X.env := by rfl) (hs2 : starEach [.Name T p2] X.env = (false, eval (.Name T p2) X.env) :: starEach [] X.env := by rfl) (hpl : (backTo pos (starEach [.Name T p2] X.env)).any (·.1) = false := by rfl) :
    VEok X Cl (.Call (.Name "isinstance" p) [a, .Name T p2] [] pos) (v1 (gIsE row) f) := by
  obtain ⟨ta, pa, qa⟩ := ha
  refine ⟨_, pe_callB call_isH hg hm (by decide +kernel) (pa_cons pa (pa_cons (pe_bltn (v := .ty tn) hgT hmT hT rfl hnT hdT) pa_nil hs2) hs) (by decide) (by decide) hs hpl, fun H0 G σ H env Fs ow r Q S e k => ?_⟩
  unfold v1 at e
  split at e <;> (first | (cases e; done) | skip)
  rename_i x ex
  refine qa _ _ _ _ _ _ _ _ _ S ex fun v H1 s1 w1 => ?_
  obtain ⟨F, rr⟩ := w1.rep
  obtain ⟨c, fs, b, C, a', d, ed, eb, rfl, hC, EC, rfl, er⟩ := isH_end hi rr e fun c b h => let ⟨C, h1, h2, _⟩ := hR c b h; ⟨C, h1, h2⟩
  obtain ⟨C', hC', _, hk⟩ := hR c b eb
  rw [hC] at hC'; cases hC'
  exact ⟨a', C, d, .ty tn, b, rfl, EC, er, .inl ⟨.type tn, fun u ru => ru, hk⟩, k _ _ s1 (.pureV (.bl _) rfl)⟩
/-! isinstance(e, (C, ..)) -/
/-- names of classes, one behind another -/
inductive CNs (X : Cx) : List Expr → List Addr → Prop
  | nil : CNs X [] []
  | cons {T : Str} {D : Addr} {q : Pos} {es : List Expr} {Ds : List Addr} (hm : X.mg T = some (.ref D)) (r : CNs X es Ds) (hg : Gl X T := by rfl) (hd : (T == ("__debug__" : Str)) = false := by decide) (hs : starEach (.Name T q :: es) X.env = (false, eval (.Name T q) X.env) :: starEach es X.env := by rfl) : CNs X (.Name T q :: es) (D :: Ds)
theorem CNs.pa {es : List Expr} {Ds : List Addr} (h : CNs X es Ds) : ∃ t, PA X es t ∧ ∀ σ H Q, Q (Ds.map V.ref) H → t σ H Q := by
  induction h with
  | nil => exact ⟨_, pa_nil, fun σ H Q q => q⟩
  | cons hm r hg hd hs ih =>
    obtain ⟨t, p, k⟩ := ih
    exact ⟨_, pa_cons (pe_glob (v := .ref _) hg hm rfl hd) p hs, fun σ H Q q => k σ H _ q⟩
theorem vals_refs : ∀ {Ds : List Addr} {us : List Value}, Vals (Ds.map V.ref) us → us = Ds.map Value.ref
  | [], _, .nil => rfl
  | _ :: _, _, .cons a r => by rw [List.map_cons, ← vals_refs r]; cases a; rfl
def kitRowT (K : PySem.W.Frag) (Cs Ds : List Addr) (row : List (Nat × Bool)) : Bool := row.all fun p => match Cs[p.1]? with
  | some C => decide (PySem.W.kitAny K (.ref C) (Ds.map Value.ref) = some p.2) && excB K C
  | none => false
def KitRowT (K : PySem.W.Frag) (Cl : ClsT) (Ds : List Addr) (row : List (Nat × Bool)) : Prop := ∀ c b, row.lookup c = some b → ∃ C, Cl c = some C ∧ ExcC K C ∧ PySem.W.kitAny K (.ref C) (Ds.map Value.ref) = some b
theorem kitRowT_ok {K : PySem.W.Frag} {Cs Ds : List Addr} {row : List (Nat × Bool)} (h : kitRowT K Cs Ds row = true) : KitRowT K (clOf Cs) Ds row := fun c b e => by
  have := List.all_eq_true.mp h (c, b) (mem_of_lookup e)
  dsimp only at this
  split at this
  · rename_i C eC
    obtain ⟨h1, h2⟩ := Bool.and_eq_true_iff.mp this
    exact ⟨C, eC, excB_ok h2, of_decide_eq_true h1⟩
  · cases this
theorem ve_isET {Ds : List Addr} {row : List (Nat × Bool)} {a : Expr} {ns : List Expr} {x1 : Nat} {p2 : Pos} {f : VE} (hi : HanIn X Cl) (hm : X.mg "isinstance" = none) (hN : CNs X ns Ds) (hR : KitRowT X.K Cl Ds row) (ha : VEok X Cl a f) (hl : Ds.length ≤ 100 := by exact Nat.le_of_ble_eq_true rfl) (hg : Gl X "isinstance" := by rfl)
    (hs : starEach [a, .Tuple ns x1 p2] X.env = (false, eval a X.env) :: starEach [.Tuple ns x1 p2] X.env := by rfl) (hs2 : starEach [.Tuple ns x1 p2] X.env = (false, eval (.Tuple ns x1 p2) X.env) :: starEach [] X.env := by rfl) (hpl : (backTo pos (starEach [.Tuple ns x1 p2] X.env)).any (·.1) = false := by rfl) :
    VEok X Cl (.Call (.Name "isinstance" p) [a, .Tuple ns x1 p2] [] pos) (v1 (gIsE row) f) := by
  obtain ⟨ta, pa, qa⟩ := ha
  obtain ⟨tn, pn, qn⟩ := hN.pa
  refine ⟨_, pe_callB call_isH hg hm (by decide +kernel) (pa_cons pa (pa_cons (pe_tup pn) pa_nil hs2) hs) (by decide) (by decide) hs hpl, fun H0 G σ H env Fs ow r Q S e k => ?_⟩
  unfold v1 at e
  split at e <;> (first | (cases e; done) | skip)
  rename_i x ex
  refine qa _ _ _ _ _ _ _ _ _ S ex fun v H1 s1 w1 => ?_
  obtain ⟨F, rr⟩ := w1.rep
  refine qn _ _ _ ⟨by rw [List.length_map]; exact small_line (Nat.le_trans hl (by decide)), fun t ht => ?_⟩
  have s2 : Same H1 (upd H1 t (.tup (Ds.map V.ref))) := same_upd ht
  obtain ⟨c, fs, b, C, a', d, ed, eb, rfl, hC, EC, rfl, er⟩ := isH_end hi (rr.same s2) e fun c b h => let ⟨C, h1, h2, _⟩ := hR c b h; ⟨C, h1, h2⟩
  obtain ⟨C', hC', _, hk⟩ := hR c b eb
  rw [hC] at hC'; cases hC'
  exact ⟨a', C, d, .ref t, b, rfl, EC, er, .inr ⟨t, _, _, rfl, upd_same, fun us r => vals_refs r, hk⟩, k _ _ (s1.trans s2) (.pureV (.bl _) rfl)⟩
end
end VL

namespace VL
open PySem PySem.Spec L2 PyProof.Rows

/-! ### try with any except clauses, each with a name or without -/
abbrev TSH := Addr → Value → Option Addr → TS
/-- the slots at the suite's start and the ends behind it, i: the slot of the clause's name -/
def atσ : Option Nat → Addr → L2.St → L2.St
  | none, _, σ => σ
  | some i, a, σ => σ.set i (some (.ref a))
def offσ : Option Nat → L2.St → L2.St
  | none, σ => σ
  | some i, σ => σ.set i none
def endsH (oi : Option Nat) (D : Ends) : Ends := { nx := fun σ H => D.nx (offσ oi σ) H, rt := D.rt, bk := fun σ H => D.bk (offσ oi σ) H, ct := fun σ H => D.ct (offσ oi σ) H }
def wHs (K : PySem.W.Frag) (Wo : WX) (D : Ends) : List (Value × Option Nat × TSH) → WX
  | [] => Wo
  | (cv, oi, ts) :: l => fun cls d σ H => ∃ b, PySem.W.exmOne K cls cv = some b ∧ (b = true → ∀ a, H a = none → ts a cls d (endsH oi D) (atσ oi a σ) H) ∧ (b = false → wHs K Wo D l cls d σ H)
def SuOk (X : Cx) (su : List Stmt) (ts : TSH) : Prop := ∀ (a : Addr) (ob : Obj) (cls : Value) (d : Option Addr) (pn : List (Addr × Obj)), Zc cls d ob → (∃ vs, ob.data = .fields vs) → PSs (X.suite a ((a, ob) :: pn)) su (ts a cls d)
inductive Hds (X : Cx) : List ExceptHandler → List (Value × Option Nat × TSH) → Prop
  | nil : Hds X [] []
  | only {x : Str} {cv : Value} {ts : TSH} {st : Stmt} {su : List Stmt} {np q : Pos} {hs : List ExceptHandler} {l : List (Value × Option Nat × TSH)} (hc : Names X x cv) (ok : SuOk X (st :: su) ts) (r : Hds X hs l) :
      Hds X (.ExceptHandler (some (.Name x np)) none (st :: su) q :: hs) ((cv, none, ts) :: l)
  | named {x n : Str} {i : Nat} {cv : Value} {ts : TSH} {st : Stmt} {su : List Stmt} {np q : Pos} {hs : List ExceptHandler} {l : List (Value × Option Nat × TSH)} (hc : Names X x cv) (hi : X.N[i]? = some n) (hk : X.env.kindOf n = some .local) (ok : SuOk X (st :: su) ts) (r : Hds X hs l) :
      Hds X (.ExceptHandler (some (.Name x np)) (some n) (st :: su) q :: hs) ((cv, some i, ts) :: l)
section
variable {X : Cx} {body : List Stmt} {hd : ExceptHandler} {hs : List ExceptHandler} {l : List (Value × Option Nat × TSH)} {pos : Pos} {tb : WX → TS} {Wo : WX}
theorem names_test {pins : List (Addr × Obj)} {σ : L2.St} {H : Hp} {s : Shared} {a : Addr} {ob : Obj} {pn : List (Addr × Obj)} {x : Str} {cv : Value} {np : Pos} (hc : Names X x cv) (S : Inv (X.suite a ((a, ob) :: pn)) pins σ H s) :
    ∀ {Q : Value → Shared → Prop} {E : Value → Shared → Prop}, Q cv s → wpAny (model X.prog X.w) (X.A.mark (some (.ref a))) (eval (.Name x np) X.env) Q E s := fun {Q E} q => by
  obtain ⟨hg, hdbg, hm | ⟨hm, hv, hnn⟩⟩ := hc
  · exact ld_glob (X := X.suite a ((a, ob) :: pn)) S hg hm q hdbg
  · exact ld_blt (X := X.suite a ((a, ob) :: pn)) S hg hm hv q hnn hdbg
theorem suite_off {oi : Option Nat} {pins : List (Addr × Obj)} {D : Ends} {σ : L2.St} {H : Hp} {s : Shared} (h : D.nx (offσ oi σ) H) : (endsH oi D).nx σ H := h
theorem ps_try_hs (hst : X.stack = X.env :: X.outer) (hf : X.env.frame = some X.env.locals) (hN : X.N.Nodup) (tk : Takes X Wo)
    (hb : ∀ (W : WX) (pn : List (Addr × Obj)) (xe : Value → Shared → Prop), Takes (X.tr pn xe) W → PassesOwn (model X.prog X.w) X.A X.env xe → PSs (X.tr pn xe) body (tb W))
    (hh : Hds X (hd :: hs) l) : PS X (.Try body (hd :: hs) [] [] pos) (fun D σ H => tb (wHs X.K Wo D l) D σ H) := by
  refine ⟨fun pins s σ H D I h => ?_⟩
  have okX := I.ok
  have frames : X.A.frames = some (X.env :: X.outer) := by rw [okX.frames, hst]
  refine wpAny_Try_except (wpAny_mono ((hb (wHs X.K Wo D l) (X.pn ++ pins) (fun er t1 => wpAny (model X.prog X.w) X.A (noteFrame er X.env) (fun _ t2 => wpAny (model X.prog X.w) X.A (setFlight er none) (fun _ t3 =>
    wpAny (model X.prog X.w) X.A (handleBy er X.env (hd :: hs)) (SP X pins D) X.xe t3) X.xe t2) X.xe t1) (fun u t xx => ?_) PassesOwn.looking).run [] s σ H D (I.toTry _) h) (fun fl t hsp => ?_) (fun er t z => z))
  · obtain ⟨a, B, t0, pn0, σ1, H1, cls, d, rfl, J0, nb, up, sky, na, os, ag, w⟩ := xx
    have J : Inv X pins σ1 H1 t0 := J0.ofTry okX
    rw [hst] at sky
    refine Sky.land Zc.steady frames hf sky fun h3 fl3 up3 => ?_
    have J3 : Inv X pins σ1 H1 { t with heap := h3 } := J.landed nb fl3.1 (up.trans up3) os ag
    obtain ⟨o3, v3, g3, z3, d3⟩ := fl3.there
    have apart : a ∉ frs (X.env :: X.outer) := fun hm => by
      obtain ⟨_, o', e', hnf⟩ := fl3.2.2.1.mem hm
      rw [g3] at e'; cases e'
      exact hnf _ d3
    have nL : a ≠ X.env.locals := fun z => apart (List.mem_filterMap.mpr ⟨X.env, List.mem_cons_self, by rw [hf, z]⟩)
    have nF : a ∉ X.fs := fun hm => by
      obtain ⟨e, he, q⟩ := List.mem_filterMap.mp hm
      exact apart (List.mem_filterMap.mpr ⟨e, List.mem_cons_of_mem _ he, q⟩)
    have S3 := J3.suite g3 d3 na nL nF
    have cl : ∀ o, Zc cls d o → o.cls = cls := fun o z => z.1
    have go : ∀ {hs' : List ExceptHandler} {l' : List (Value × Option Nat × TSH)}, Hds X hs' l' → wHs X.K Wo D l' cls d σ1 H1 → wpAny (model X.prog X.w) X.A (handleBy (.ref a) X.env hs') (SP X pins D) X.xe { t with heap := h3 } := by
      intro hs' l' hk
      induction hk with
      | nil =>
        intro w
        refine PX.no_clauseZ (Z := Zc cls d) (B := B) (outer := X.outer) hf fl3 fun h4 hh4 up4 => tk _ _ ?_
        exact ⟨a, B, t0, pins, σ1, H1, cls, d, rfl, J, nb, (up.trans up3).trans up4, .inr (.inr (by rw [hst]; exact hh4)), na, os, ag, w⟩
      | @only x cv ts st su np q hs2 l2 hc ok r ih =>
        intro w
        obtain ⟨b, hb1, yes, no⟩ := w
        cases b with
        | false => exact PX.clause_passZ (Z := Zc cls d) (B := B) (outer := X.outer) J3.kIn cl fl3 hb1 (fun {_ _} z => names_test hc S3 z) (ih (no rfl))
        | true =>
          refine PX.clause_onlyZ (Z := Zc cls d) (B := B) (outer := X.outer) J3.kIn cl fl3 hb1 (fun {_ _} z => names_test hc S3 z) fun h4 fl4 up4 => ?_
          have J4 : Inv X pins σ1 H1 { t with heap := h4 } := J.landed nb fl4.1 ((up.trans up3).trans up4) os ag
          obtain ⟨o4, v4, g4, z4, d4⟩ := PX.FlyingZ.there fl4
          refine wpAny_mono ((ok a o4 cls d (X.pn ++ pins) z4 ⟨_, d4⟩).run [] _ _ H1 _ (J4.suite g4 d4 na nL nF) (yes rfl a na)) (fun f t6 hsp => ?_) (fun _ _ z => z)
          match f, hsp with
          | .next, ⟨σ6, H6, S6, q6⟩ => exact ⟨_, _, S6.unsuite okX, q6⟩
          | .brk, ⟨σ6, H6, S6, q6⟩ => exact ⟨_, _, S6.unsuite okX, q6⟩
          | .cont, ⟨σ6, H6, S6, q6⟩ => exact ⟨_, _, S6.unsuite okX, q6⟩
          | .ret u, ⟨v6, σ6, H6, S6, r6, q6⟩ => exact ⟨_, _, _, S6.unsuite okX, r6, q6⟩
      | @named x n i cv ts st su np q hs2 l2 hc hi hk' ok r ih =>
        intro w
        obtain ⟨b, hb1, yes, no⟩ := w
        cases b with
        | false => exact PX.clause_passZ (Z := Zc cls d) (B := B) (outer := X.outer) J3.kIn cl fl3 hb1 (fun {_ _} z => names_test hc S3 z) (ih (no rfl))
        | true =>
          refine PX.clause_asZ (Z := Zc cls d) (B := B) (outer := X.outer) J3.kIn cl fl3 hb1 (fun {_ _} z => names_test hc S3 z) fun h4 fl4 up4 => ?_
          have J4 : Inv X pins σ1 H1 { t with heap := h4 } := J.landed nb fl4.1 ((up.trans up3).trans up4) os ag
          obtain ⟨o4, v4, g4, z4, d4⟩ := PX.FlyingZ.there fl4
          refine store_ok (X := X.suite a ((a, o4) :: (X.pn ++ pins))) (v := .ref a) (J4.suite g4 d4 na nL nF) hN hi (.inl hk') rfl (fun t5 S5 => ?_) (.inr hk')
          refine wpAny_mono ((ok a o4 cls d (X.pn ++ pins) z4 ⟨_, d4⟩).run [] t5 _ H1 _ S5 (yes rfl a na)) (fun f t6 hsp => ?_) (fun _ _ z => False.elim z)
          have gone : ∀ {σ6 : L2.St} {H6 : Hp} {R : Shared → Prop}, Inv (X.suite a ((a, o4) :: (X.pn ++ pins))) [] σ6 H6 t6 → (∀ t7, Inv X pins (σ6.set i none) H6 t7 → R t7) →
              wpAny (model X.prog X.w) X.A (do bindName X.env n .none; unbindBehindTheSuite X.env n q) (fun _ t7 => R t7) X.xe t6 := fun S6 hq => gone_ok (S6.unsuite okX) hN hi hk' hq
          match f, hsp with
          | .next, ⟨σ6, H6, S6, q6⟩ => exact gone S6 fun t7 J7 => ⟨_, _, J7, q6⟩
          | .brk, ⟨σ6, H6, S6, q6⟩ => exact gone S6 fun t7 J7 => ⟨_, _, J7, q6⟩
          | .cont, ⟨σ6, H6, S6, q6⟩ => exact gone S6 fun t7 J7 => ⟨_, _, J7, q6⟩
          | .ret u, ⟨v6, σ6, H6, S6, r6, q6⟩ => exact gone S6 fun t7 J7 => ⟨_, _, _, J7, r6, q6⟩
    exact go hh w
  · match fl, hsp with
    | .next, ⟨σ', H', J', q⟩ => exact wpAny_execs_nil ⟨σ', H', J'.ofTry okX, q⟩
    | .brk, ⟨σ', H', J', q⟩ => exact ⟨σ', H', J'.ofTry okX, q⟩
    | .cont, ⟨σ', H', J', q⟩ => exact ⟨σ', H', J'.ofTry okX, q⟩
    | .ret u, ⟨v, σ', H', J', r, q⟩ => exact ⟨v, σ', H', J'.ofTry okX, r, q⟩
end
end VL

namespace VL
open PySem PySem.Spec L2 PyProof.Rows

/-! ### data without errors -/
mutual
def noExc : D → Bool
  | .tup xs => noExcL xs
  | .lst xs => noExcL xs
  | .dic kvs => noExcK kvs
  | .ins _ fs => noExcF fs
  | .exc _ _ => false
  | .scr _ => true
  | .non => true
  | .bl _ => true
  | .int _ => true
  | .str _ => true
  | .kdc _ => true
def noExcL : List D → Bool
  | [] => true
  | x :: xs => noExc x && noExcL xs
def noExcK : List (Key × D) → Bool
  | [] => true
  | (_, x) :: xs => noExc x && noExcK xs
def noExcF : List (Str × D) → Bool
  | [] => true
  | (_, x) :: xs => noExc x && noExcF xs
end
section
variable {K : PySem.W.Frag} {Cl Cl' : ClsT} {H : Hp}
/-- what is handled grows, or plays no part -/
def SameC (Cl Cl' : ClsT) : Prop := (∀ c, Cl' c = Cl c) ∧ ∀ a, Cl'.con a = Cl.con a
def Grow (Cl Cl' : ClsT) : Prop := ∀ a x, Cl.han a = some x → Cl'.han a = some x
mutual
theorem Rep.chg (hc : SameC Cl Cl') : ∀ {F : ASet} {v : V} {d : D}, Rep K Cl H F v d → Grow Cl Cl' ∨ noExc d = true → Rep K Cl' H F v d
  | _, _, _, .non, _ => .non
  | _, _, _, .bl b, _ => .bl b
  | _, _, _, .int i, _ => .int i
  | _, _, _, .str x, _ => .str x
  | _, _, _, .tup h r, q => .tup h (Reps.chg hc r (q.imp id fun z => by rw [noExc] at z; exact z))
  | _, _, _, .lst h f r, q => .lst h f (Reps.chg hc r (q.imp id fun z => by rw [noExc] at z; exact z))
  | _, _, _, .dic h f r, q => .dic h f (RepK.chg hc r (q.imp id fun z => by rw [noExc] at z; exact z))
  | _, _, _, .ins h f c r, q => .ins h f ((hc.1 _).trans c) (RepF.chg hc r (q.imp id fun z => by rw [noExc] at z; exact z))
  | _, _, _, .scr h f, _ => .scr h f
  | _, _, _, .scrK h, _ => .scrK h
  | _, _, _, .kdc h, _ => .kdc ((hc.2 _).trans h)
  | _, _, _, .exc0 h f c, _ => .exc0 h f ((hc.1 _).trans c)
  | _, _, _, .exc h hd f fd c r, q => .exc h hd f fd ((hc.1 _).trans c) (RepF.chg hc r (.inl (q.elim id fun z => by rw [noExc] at z; cases z)))
  | _, _, _, .exh0 h, q => .exh0 (q.elim (fun g => g _ _ h) fun z => by rw [noExc] at z; cases z)
  | _, _, _, .exh h hd r, q => .exh (q.elim (fun g => g _ _ h) fun z => by rw [noExc] at z; cases z) hd (RepF.chg hc r (.inl (q.elim id fun z => by rw [noExc] at z; cases z)))
theorem Reps.chg (hc : SameC Cl Cl') : ∀ {F : ASet} {v : List V} {d : List D}, Reps K Cl H F v d → Grow Cl Cl' ∨ noExcL d = true → Reps K Cl' H F v d
  | _, _, _, .nil, _ => .nil
  | _, _, _, .cons a b, q => .cons (Rep.chg hc a (q.imp id fun z => by rw [noExcL, Bool.and_eq_true] at z; exact z.1)) (Reps.chg hc b (q.imp id fun z => by rw [noExcL, Bool.and_eq_true] at z; exact z.2))
theorem RepK.chg (hc : SameC Cl Cl') : ∀ {F : ASet} {v : List (Key × V)} {d : List (Key × D)}, RepK K Cl H F v d → Grow Cl Cl' ∨ noExcK d = true → RepK K Cl' H F v d
  | _, _, _, .nil, _ => .nil
  | _, _, _, .cons a b, q => .cons (Rep.chg hc a (q.imp id fun z => by rw [noExcK, Bool.and_eq_true] at z; exact z.1)) (RepK.chg hc b (q.imp id fun z => by rw [noExcK, Bool.and_eq_true] at z; exact z.2))
theorem RepF.chg (hc : SameC Cl Cl') : ∀ {F : ASet} {v : List (Str × V)} {d : List (Str × D)}, RepF K Cl H F v d → Grow Cl Cl' ∨ noExcF d = true → RepF K Cl' H F v d
  | _, _, _, .nil, _ => .nil
  | _, _, _, .cons a b, q => .cons (Rep.chg hc a (q.imp id fun z => by rw [noExcF, Bool.and_eq_true] at z; exact z.1)) (RepF.chg hc b (q.imp id fun z => by rw [noExcF, Bool.and_eq_true] at z; exact z.2))
end
theorem Own.chg {F : ASet} {a : Addr} {d : D} (hc : SameC Cl Cl') (h : Own K Cl H F a d) (q : Grow Cl Cl' ∨ noExc d = true) : Own K Cl' H F a d := by
  cases h with
  | lst h r => exact .lst h (r.chg hc (q.imp id fun z => by rw [noExc] at z; exact z))
  | dic h r => exact .dic h (r.chg hc (q.imp id fun z => by rw [noExc] at z; exact z))
  | ins h c r => exact .ins h ((hc.1 _).trans c) (r.chg hc (q.imp id fun z => by rw [noExc] at z; exact z))
theorem Grid.chg (hc : SameC Cl Cl') : ∀ {as : List Addr} {vs : List V} {ds : List D}, Grid K Cl H as vs ds → Grow Cl Cl' ∨ noExcL ds = true → Grid K Cl' H as vs ds
  | _, _, _, .nil, _ => .nil
  | _, _, _, .pure r n g, q => .pure (r.chg hc (q.imp id fun z => by rw [noExcL, Bool.and_eq_true] at z; exact z.1)) n (g.chg hc (q.imp id fun z => by rw [noExcL, Bool.and_eq_true] at z; exact z.2))
  | _, _, _, .own h r n k g, q => .own h (r.chg hc (q.imp id fun z => by rw [noExcL, Bool.and_eq_true] at z; have := z.1; rw [noExc] at this; exact this)) n k (g.chg hc (q.imp id fun z => by rw [noExcL, Bool.and_eq_true] at z; exact z.2))
theorem Lv.chg {F : ASet} {l : Nat} {v : V} {d : D} {ow : List Addr} (hc : SameC Cl Cl') (x : Lv K Cl H F l v d ow) (q : Grow Cl Cl' ∨ noExc d = true) : Lv K Cl' H F l v d ow := by
  cases x with
  | zero => exact .zero
  | pure n => exact .pure n
  | one o n k f => exact .one (o.chg hc q) n k f
  | two h g n f k => exact .two h (g.chg hc (q.imp id fun z => by rw [noExc] at z; exact z)) n f k
theorem RetOk.chg {H0 : Hp} {G : ASet} {v : V} {d : D} {l : Nat} (hc : SameC Cl Cl') (x : RetOk K Cl H0 H G v d l) (q : Grow Cl Cl' ∨ noExc d = true) : RetOk K Cl' H0 H G v d l := by
  obtain ⟨F, ow, h1, h2, h3, h4, h5⟩ := x
  exact ⟨F, ow, h1.chg hc q, h2, h3, h4.chg hc q, h5⟩
theorem StOk.clchg {H0 : Hp} {G : ASet} {σ : L2.St} {env : Ev} {Fs : Nat → ASet} {ow : Nat → List Addr} (hc : SameC Cl Cl') (x : StOk K Cl H0 G σ H env Fs ow) (q : Grow Cl Cl') : StOk K Cl' H0 G σ H env Fs ow :=
  ⟨x.same, x.len, fun i fl d e => let ⟨v, h1, h2, h3⟩ := x.val i fl d e; ⟨v, h1, h2.chg hc (.inl q), h3.chg hc (.inl q)⟩, x.trk, x.base, x.own, x.kind, x.fin⟩
/-- slots with errors are forgotten -/
def clean (env : Ev) : Ev := env.map fun s => match s with
  | some (l, d) => if noExc d = true then some (l, d) else none
  | none => none
theorem StOk.clean {H0 : Hp} {G : ASet} {σ : L2.St} {env : Ev} {Fs : Nat → ASet} {ow : Nat → List Addr} (hc : SameC Cl Cl') (x : StOk K Cl H0 G σ H env Fs ow) : StOk K Cl' H0 G σ H (clean env) Fs ow := by
  refine ⟨x.same, by unfold VL.clean; rw [List.length_map]; exact x.len, fun i fl d e => ?_, x.trk, x.base, x.own, x.kind, fun i a f => by unfold VL.clean; rw [List.length_map]; exact x.fin i a f⟩
  unfold VL.clean at e
  rw [List.getElem?_map] at e
  cases es : env[i]? with
  | none => rw [es] at e; cases e
  | some s =>
    rw [es] at e
    match s, es, e with
    | none, es, e => cases e
    | some (l, d'), es, e =>
      have e := Option.some.inj e
      dsimp only at e
      split at e
      · rename_i hq
        cases e
        obtain ⟨v, h1, h2, h3⟩ := x.val i fl d es
        exact ⟨v, h1, h2.chg hc (.inr hq), h3.chg hc (.inr hq)⟩
      · cases e
/-- a slot is unset -/
theorem StOk.unset {H0 : Hp} {G : ASet} {σ : L2.St} {env : Ev} {Fs : Nat → ASet} {ow : Nat → List Addr} (x : StOk K Cl H0 G σ H env Fs ow) (i : Nat) : StOk K Cl H0 G (σ.set i none) H (env.set i none) Fs ow := by
  refine ⟨x.same, by rw [List.length_set, List.length_set]; exact x.len, fun j fl d e => ?_, x.trk, x.base, x.own, x.kind, fun j a f => by rw [List.length_set]; exact x.fin j a f⟩
  by_cases hj : j = i
  · subst hj
    by_cases hl : j < env.length
    · rw [List.getElem?_set_self hl] at e; cases e
    · rw [List.getElem?_eq_none (by rw [List.length_set]; omega)] at e; cases e
  · rw [List.getElem?_set_ne (fun z => hj z.symm)] at e
    rw [List.getElem?_set_ne (fun z => hj z.symm)]
    exact x.val j fl d e
end

/-! ### try -/
abbrev VHd := List (Nat × Bool) × Option Nat × VS
def exitH (oi : Option Nat) : Rs → Rs
  | .nx e => .nx (match oi with | some i => (clean e).set i none | none => e)
  | .bk e => .bk (match oi with | some i => (clean e).set i none | none => e)
  | .ct e => .ct (match oi with | some i => (clean e).set i none | none => e)
  | .ret d l => match oi with
    | some _ => if noExc d = true then .ret d l else .no
    | none => .ret d l
  | .ex _ _ _ => .no
  | .no => .no
def catchS : List VHd → Ev → Nat → List (Str × D) → Rs
  | [], e, c, fs => .ex e c fs
  | (row, oi, g) :: l, e, c, fs => match row.lookup c with
    | some true => (match oi with
      | some i => if i < e.length then exitH oi (g (e.set i (some (0, .exc c fs)))) else .no
      | none => exitH oi (g e))
    | some false => catchS l e c fs
    | none => .no
def vTry (f : VS) (l : List VHd) : VS := fun env => match f env with
  | .ex e c fs => catchS l e c fs
  | r => r
def ExmRow (K : PySem.W.Frag) (Cl : ClsT) (cv : Value) (row : List (Nat × Bool)) : Prop := ∀ c b, row.lookup c = some b → ∃ C, Cl c = some C ∧ PySem.W.exmOne K (.ref C) cv = some b
def exmRow (K : PySem.W.Frag) (Cs : List Addr) (cv : Value) (row : List (Nat × Bool)) : Bool := row.all fun p => match Cs[p.1]? with
  | some C => decide (PySem.W.exmOne K (.ref C) cv = some p.2)
  | none => false
theorem exmRow_ok {K : PySem.W.Frag} {Cs : List Addr} {cv : Value} {row : List (Nat × Bool)} (h : exmRow K Cs cv row = true) : ExmRow K (clOf Cs) cv row := fun c b e => by
  have := List.all_eq_true.mp h (c, b) (mem_of_lookup e)
  dsimp only at this
  split at this
  · rename_i C eC
    exact ⟨C, eC, of_decide_eq_true this⟩
  · cases this
abbrev WF : WX := fun _ _ _ _ => False
def VSu0 (X : Cx) (Cl : ClsT) (su : List Stmt) (g : VS) : Prop := ∀ (a : Addr) (ob : Obj) (pn : List (Addr × Obj)), VBok (X.suite a ((a, ob) :: pn)) WF Cl su g
def VSuN (X : Cx) (Cl : ClsT) (su : List Stmt) (g : VS) : Prop := ∀ (a : Addr) (ob : Obj) (pn : List (Addr × Obj)) (han : Addr → Option (Nat × Option Addr)), HanIn (X.suite a ((a, ob) :: pn)) ⟨Cl.cls, han, Cl.con⟩ → VBok (X.suite a ((a, ob) :: pn)) WF ⟨Cl.cls, han, Cl.con⟩ su g
inductive VHds (X : Cx) (Cl : ClsT) : List ExceptHandler → List VHd → Prop
  | nil : VHds X Cl [] []
  | only {x : Str} {cv : Value} {row : List (Nat × Bool)} {g : VS} {st : Stmt} {su : List Stmt} {np q : Pos} {hs : List ExceptHandler} {l : List VHd} (hm : X.mg x = some cv) (hR : ExmRow X.K Cl cv row) (ok : VSu0 X Cl (st :: su) g) (r : VHds X Cl hs l)
      (hg : Gl X x := by rfl) (hd : (x == ("__debug__" : Str)) = false := by decide) : VHds X Cl (.ExceptHandler (some (.Name x np)) none (st :: su) q :: hs) ((row, none, g) :: l)
  | named {x n : Str} (i : Nat) {cv : Value} {row : List (Nat × Bool)} {g : VS} {st : Stmt} {su : List Stmt} {np q : Pos} {hs : List ExceptHandler} {l : List VHd} (hm : X.mg x = some cv) (hR : ExmRow X.K Cl cv row) (ok : VSuN X Cl (st :: su) g) (r : VHds X Cl hs l)
      (hg : Gl X x := by rfl) (hd : (x == ("__debug__" : Str)) = false := by decide) (hi : X.N[i]? = some n := by rfl) (hk : X.env.kindOf n = some .local := by rfl) : VHds X Cl (.ExceptHandler (some (.Name x np)) (some n) (st :: su) q :: hs) ((row, some i, g) :: l)
/-- what a suite asks, whichever object stands for the error -/
def tsOf (X : Cx) (su : List Stmt) : TSH := fun a cls d D σ H => ∀ (ob : Obj) (pn : List (Addr × Obj)), Zc cls d ob → (∃ vs, ob.data = .fields vs) → ∃ t, PSs (X.suite a ((a, ob) :: pn)) su t ∧ t D σ H
theorem tsOf_ok {X : Cx} {su : List Stmt} : SuOk X su (tsOf X su) := fun a ob cls d pn hz hf => ⟨fun pins s σ H D I h => let ⟨t, p, q⟩ := h ob pn hz hf; p.run pins s σ H D I q⟩
theorem VHds.hds {X : Cx} {Cl : ClsT} (nh : ∀ a, Cl.han a = none) {hs : List ExceptHandler} {l : List VHd} (h : VHds X Cl hs l) : ∃ l', Hds X hs l' ∧
    ∀ (Wo : WX) (D : Ends) (H0 : Hp) (G : ASet) (H : Hp) (ow : Nat → List Addr) (e : Ev) (c : Nat) (fs : List (Str × VL.D)), EndOk X.K Cl Wo H0 G D H ow (catchS l e c fs) →
      ∀ σ' H' Fs' ow' cls d, Stp H ow H' ow' → StOk X.K Cl H0 G σ' H' e Fs' ow' → ExcIs X.K Cl H' cls d c fs → wHs X.K Wo D l' cls d σ' H' := by
  induction h with
  | nil => exact ⟨[], .nil, fun Wo D H0 G H ow e c fs k => k⟩
  | @only x cv row g st su np q hs l hm hR ok r hg hd ih =>
    obtain ⟨l', h1, h2⟩ := ih
    refine ⟨(cv, none, tsOf X (st :: su)) :: l', .only ⟨hg, hd, .inl hm⟩ tsOf_ok h1, fun Wo D H0 G H ow e c fs k σ' H' Fs' ow' cls d sp S y => ?_⟩
    obtain ⟨C, hC, rfl, hn, hx⟩ := id y
    unfold catchS at k
    split at k
    · rename_i hb
      obtain ⟨C', hC', he⟩ := hR c true hb
      rw [hC] at hC'; cases hC'
      refine ⟨true, he, fun _ a na ob pn hz hf => ?_, fun z => by cases z⟩
      obtain ⟨t, p, qt⟩ := ok a ob pn
      refine ⟨t, p, qt H0 G _ _ _ _ _ _ S ?_⟩
      cases eg : g e with
      | nx e1 => rw [eg] at k; exact fun σ2 H2 F2 o2 s2 S2 => k σ2 H2 F2 o2 (sp.trans s2) S2
      | bk e1 => rw [eg] at k; exact fun σ2 H2 F2 o2 s2 S2 => k σ2 H2 F2 o2 (sp.trans s2) S2
      | ct e1 => rw [eg] at k; exact fun σ2 H2 F2 o2 s2 S2 => k σ2 H2 F2 o2 (sp.trans s2) S2
      | ret d1 l1 =>
        rw [eg] at k
        exact (EndOk.later (K := X.K) (Cl := Cl) (W := Wo) (H0 := H0) (G := G) (D := D) (r := .ret d1 l1) k sp)
      | ex e1 c1 f1 => rw [eg] at k; exact k.elim
      | no => rw [eg] at k; exact k.elim
    · rename_i hb
      obtain ⟨C', hC', he⟩ := hR c false hb
      rw [hC] at hC'; cases hC'
      exact ⟨false, he, (fun z => by cases z), fun _ => h2 Wo D H0 G H ow e c fs k σ' H' Fs' ow' _ d sp S y⟩
    · exact k.elim
  | @named x n i cv row g st su np q hs l hm hR ok r hg hd hi hk ih =>
    obtain ⟨l', h1, h2⟩ := ih
    refine ⟨(cv, some i, tsOf X (st :: su)) :: l', .named ⟨hg, hd, .inl hm⟩ hi hk tsOf_ok h1, fun Wo D H0 G H ow e c fs k σ' H' Fs' ow' cls d sp S y => ?_⟩
    obtain ⟨C, hC, rfl, hn, hx⟩ := id y
    unfold catchS at k
    split at k
    · rename_i hb
      obtain ⟨C', hC', he⟩ := hR c true hb
      rw [hC] at hC'; cases hC'
      dsimp only at k
      split at k
      · rename_i hlt
        refine ⟨true, he, fun _ a na ob pn hz hf => ?_, fun z => by cases z⟩
        obtain ⟨vs, hf⟩ := hf
        let Cl' : ClsT := ⟨Cl.cls, fun b => if b = a then some (c, d) else none, Cl.con⟩
        have hc1 : SameC Cl Cl' := ⟨fun _ => rfl, fun _ => rfl⟩
        have hin : HanIn (X.suite a ((a, ob) :: pn)) Cl' := fun b c' d' hb' => by
          have hb'' : (if b = a then some (c, d) else none) = some (c', d') := hb'
          split at hb''
          · rename_i hba
            subst hba
            cases hb''
            exact ⟨C, ob, vs, hC, List.mem_cons_self, hz.1, hz.2, hf⟩
          · cases hb''
        obtain ⟨t, p, qt⟩ := ok a ob pn _ hin
        have S1 : StOk X.K Cl' H0 G σ' H' e Fs' ow' := S.clchg hc1 fun b z hz' => by rw [nh] at hz'; cases hz'
        have ha : Cl'.han a = some (c, d) := if_pos rfl
        have rp : Rep X.K Cl' H' (fun _ => False) (.ref a) (.exc c fs) := by
          rcases hx with ⟨rfl, rfl⟩ | ⟨dd, ys, rfl, h3, h4⟩
          · exact .exh0 ha
          · exact .exh ha h3 (h4.chg hc1 (.inl fun b z hz' => by rw [nh] at hz'; cases hz'))
        obtain ⟨F1, o1, k1, k2, S2⟩ := S1.put0 hlt ⟨rp, fun _ z => z.elim, fun _ z => z.elim, fun _ z => z.elim⟩
        have sp1 : Stp H ow H' o1 := sp.trans (.of_same (Same.refl _) fun a h => .inl (k1 a h))
        refine ⟨t, p, qt H0 G _ _ _ _ _ _ S2 ?_⟩
        have hc2 : SameC Cl' Cl := ⟨fun _ => rfl, fun _ => rfl⟩
        cases eg : g (e.set i (some (0, .exc c fs))) with
        | nx e1 => rw [eg] at k; exact fun σ2 H2 F2 o2 s2 S2 => k _ H2 F2 o2 (sp1.trans s2) ((S2.clean hc2).unset i)
        | bk e1 => rw [eg] at k; exact fun σ2 H2 F2 o2 s2 S2 => k _ H2 F2 o2 (sp1.trans s2) ((S2.clean hc2).unset i)
        | ct e1 => rw [eg] at k; exact fun σ2 H2 F2 o2 s2 S2 => k _ H2 F2 o2 (sp1.trans s2) ((S2.clean hc2).unset i)
        | ret d1 l1 =>
          rw [eg] at k
          dsimp only [exitH] at k
          split at k
          · rename_i hq
            have k' := EndOk.later (K := X.K) (Cl := Cl) (W := Wo) (H0 := H0) (G := G) (D := D) (r := .ret d1 l1) k sp1
            exact fun v H2 kp R => k' v H2 kp (R.chg hc2 (.inr hq))
          · exact k.elim
        | ex e1 c1 f1 => rw [eg] at k; exact k.elim
        | no => rw [eg] at k; exact k.elim
      · exact k.elim
    · rename_i hb
      obtain ⟨C', hC', he⟩ := hR c false hb
      rw [hC] at hC'; cases hC'
      exact ⟨false, he, (fun z => by cases z), fun _ => h2 Wo D H0 G H ow e c fs k σ' H' Fs' ow' _ d sp S y⟩
    · exact k.elim
theorem vs_try {X : Cx} {W : WX} {Cl : ClsT} {body : List Stmt} {hd : ExceptHandler} {hs : List ExceptHandler} {l : List VHd} {f : VS} {pos : Pos} (nh : ∀ a, Cl.han a = none) (hN : X.N.Nodup) (tk : Takes X W)
    (hb : ∀ (W' : WX) (pn : List (Addr × Obj)) (xe : Value → Shared → Prop), Takes (X.tr pn xe) W' → PassesOwn (model X.prog X.w) X.A X.env xe → VBok (X.tr pn xe) W' Cl body f)
    (hh : VHds X Cl (hd :: hs) l) (hst : X.stack = X.env :: X.outer := by rfl) (hf : X.env.frame = some X.env.locals := by rfl) : VSok X W Cl (.Try body (hd :: hs) [] [] pos) (vTry f l) := by
  obtain ⟨l', h1, h2⟩ := hh.hds nh
  refine ⟨_, ps_try_hs (Wo := W) (l := l') (tb := fun W' D σ H => ∀ pn xe, Takes (X.tr pn xe) W' → PassesOwn (model X.prog X.w) X.A X.env xe → ∃ t, PSs (X.tr pn xe) body t ∧ t D σ H) hst hf hN tk (fun W' pn xe tk' hp' => ⟨fun pins s σ H D I h => ?_⟩) h1, fun H0 G D σ H env Fs ow S k pn xe tk' hp' => ?_⟩
  · obtain ⟨t, p, q⟩ := h pn xe tk' hp'
    exact p.run pins s σ H D I q
  · obtain ⟨t, p, q⟩ := hb _ pn xe tk' hp'
    refine ⟨t, p, q H0 G _ _ _ _ _ _ S ?_⟩
    unfold vTry at k
    cases ef : f env with
    | nx e => rw [ef] at k; exact k
    | bk e => rw [ef] at k; exact k
    | ct e => rw [ef] at k; exact k
    | ret d l => rw [ef] at k; exact k
    | ex e c fs => rw [ef] at k; exact fun σ' H' Fs' ow' cls d sp S' y => h2 W D H0 G H ow e c fs k σ' H' Fs' ow' cls d sp S' y
    | no => rw [ef] at k; exact k.elim
end VL

namespace VL
open PySem PySem.Spec L2 PyProof.Rows

/-! ### dicts and tuples of the module -/
def conVal : Value → D → Bool
  | .int i _, .int j => i == j
  | .str x _, .str y => x == y
  | _, _ => false
def conEnt : List DictEntry → List (Str × D) → Bool
  | [], [] => true
  | e :: r, (k, d) :: s => (match e.key with
    | .str x _ => x == k
    | _ => false) && (conVal e.val d && conEnt r s)
  | _, _ => false
def kdcB (K : PySem.W.Frag) (a : Addr) (kvs : List (Str × D)) : Bool := match K.lookup a with
  | some ⟨_, _, .dict es _, _⟩ => conEnt es.toList kvs
  | _ => false
theorem conVal_ok {u : Value} {d : D} (h : conVal u d = true) : ∃ v, RelV v u ∧ (∀ (K : PySem.W.Frag) (Cl : ClsT) (H : Hp), Rep K Cl H (fun _ => False) v d) ∧ noMut d = true := by
  unfold conVal at h
  split at h
  · rename_i i t j
    have := eq_of_beq h; subst this
    exact ⟨.int i, ⟨t, rfl⟩, fun _ _ _ => .int i, rfl⟩
  · rename_i i t j
    have := eq_of_beq h; subst this
    exact ⟨.str i, ⟨t, rfl⟩, fun _ _ _ => .str i, rfl⟩
  · cases h
theorem conEnt_ok (z : Str) : ∀ {es : List DictEntry} {kvs : List (Str × D)}, conEnt es kvs = true → es.any (·.refKey) = false ∧ (match lookD z kvs with
    | some d => ∃ e, es.find? (·.key.isStr z) = some e ∧ conVal e.val d = true
    | none => es.find? (·.key.isStr z) = none)
  | [], [], _ => ⟨rfl, rfl⟩
  | [], _ :: _, h => by cases h
  | _ :: _, [], h => by cases h
  | e :: r, (k, d) :: s, h => by
    unfold conEnt at h
    rw [Bool.and_eq_true, Bool.and_eq_true] at h
    obtain ⟨h1, h2, h3⟩ := h
    obtain ⟨hh, key, val⟩ := e
    cases key <;> first | (exact absurd h1 Bool.false_ne_true) | skip
    rename_i x t
    have hx : x = k := eq_of_beq h1
    subst hx
    have ih := conEnt_ok z h3
    refine ⟨by rw [List.any_cons, ih.1]; rfl, ?_⟩
    unfold lookD
    by_cases hz : z = x
    · subst hz
      rw [if_pos rfl]
      refine ⟨_, List.find?_cons_of_pos ?_, h2⟩
      show (z == z) = true
      exact beq_self_eq_true z
    · rw [if_neg hz]
      have hk : (DictEntry.mk hh (.str x t) val).key.isStr z = false := by
        show (x == z) = false
        exact beq_eq_false_iff_ne.mpr fun q => hz q.symm
      have e1 : (⟨hh, .str x t, val⟩ :: r : List DictEntry).find? (·.key.isStr z) = r.find? (·.key.isStr z) := List.find?_cons_of_neg (by rw [hk]; exact Bool.false_ne_true)
      have ih2 := ih.2
      cases el : lookD z s with
      | none => rw [el] at ih2; dsimp only at ih2 ⊢; rw [e1]; exact ih2
      | some d' => rw [el] at ih2; dsimp only at ih2 ⊢; rw [e1]; exact ih2
theorem kdcB_ok {K : PySem.W.Frag} {a : Addr} {kvs : List (Str × D)} (h : kdcB K a kvs = true) (z : Str) : match lookD z kvs with
    | some d => ∃ u, PySem.W.nsIn K a z = some (some u) ∧ conVal u d = true
    | none => PySem.W.nsIn K a z = some none := by
  unfold kdcB at h
  split at h
  · rename_i es n sl hl
    have ih := conEnt_ok z h
    unfold PySem.W.nsIn
    rw [hl]
    dsimp only
    cases el : lookD z kvs with
    | none =>
      rw [el] at ih
      dsimp only at ih ⊢
      rw [ih.2, ih.1]
      rfl
    | some d =>
      rw [el] at ih
      dsimp only at ih ⊢
      obtain ⟨e, he, hv⟩ := ih.2
      rw [he]
      exact ⟨_, rfl, hv⟩
  · cases h
/-- the dicts of the module are as told -/
def ConIn (K : PySem.W.Frag) (w : World) (Cl : ClsT) : Prop := ∀ a kvs, Cl.con a = some kvs → (∃ es n, KDict K w a es n) ∧ kdcB K a kvs = true
/-- a name for one -/
def ConH (mg : Str → Option Value) (Cl : ClsT) (x : Str) (kvs : List (Str × D)) : Prop := ∃ a, mg x = some (.ref a) ∧ Cl.con a = some kvs
/-- what stands at the numbers of a list -/
def conOf : List (Addr × List (Str × D)) → Addr → Option (List (Str × D))
  | [], _ => none
  | (b, kvs) :: r, a => if a = b then some kvs else conOf r a
theorem conIn_nil {K : PySem.W.Frag} {w : World} {Cl : ClsT} (h : ∀ a, Cl.con a = none) : ConIn K w Cl := fun a kvs e => by rw [h] at e; cases e
theorem conIn_of {K : PySem.W.Frag} {w : World} {Cl : ClsT} {l : List (Addr × List (Str × D))} (h : Cl.con = conOf l) (q : ∀ p ∈ l, ∃ ks, He.dicW K p.1 = some (He.keysIn w.params ks) ∧ kdcB K p.1 p.2 = true) : ConIn K w Cl := by
  intro a kvs e
  rw [h] at e
  clear h
  induction l with
  | nil => cases e
  | cons p r ih =>
    obtain ⟨b, k⟩ := p
    unfold conOf at e
    split at e
    · rename_i hab
      subst hab
      cases e
      obtain ⟨ks, h1, h2⟩ := q _ List.mem_cons_self
      exact ⟨He.dicW_ok h1, h2⟩
    · exact ih (fun p hp => q p (List.mem_cons_of_mem _ hp)) e
section
variable {X : Cx} {Cl : ClsT} {p pos : Pos}
theorem ve_con {x : Str} {kvs : List (Str × D)} (h : ConH X.mg Cl x kvs) (hg : Gl X x := by rfl) (hd : (x == ("__debug__" : Str)) = false := by decide) : VEok X Cl (.Name x pos) (vC (.kdc kvs)) := by
  obtain ⟨a, h1, h2⟩ := h
  exact ve_c (v := .ref a) (pe_glob hg h1 rfl hd) (fun _ _ => .kdc h2) rfl
theorem kdc_of {K : PySem.W.Frag} {H : Hp} {F : ASet} {v : V} {kvs : List (Str × D)} (h : Rep K Cl H F v (.kdc kvs)) : ∃ a, v = .ref a ∧ Cl.con a = some kvs := by cases h; exact ⟨_, rfl, by assumption⟩
def gIxK : G2 := fun x y => match x.d, y.d with
  | .kdc kvs, .str z => match lookD z kvs with
    | some d => some ⟨d, 2, []⟩
    | none => none
  | _, _ => none
theorem ov_ixK (ci : ConIn X.K X.w Cl) : OpV X Cl (rIxD X.K X.w) gIxK := by
  intro Hs H1 H2 Fs x y rx ry rr Q s1 s2 w1 w2 e k
  unfold gIxK at e
  split at e <;> (first | (cases e; done) | skip)
  rename_i kvs z ex ey
  split at e <;> (first | (cases e; done) | skip)
  rename_i d ed
  cases e
  obtain ⟨F, r1⟩ := w1.rep
  rw [ex] at r1
  obtain ⟨a, rfl, ha⟩ := kdc_of r1
  obtain ⟨⟨es, n, D⟩, hk⟩ := ci a kvs ha
  have q := kdcB_ok hk z
  rw [ed] at q
  obtain ⟨u, hu, hv⟩ := q
  obtain ⟨v, rv, rep, nm⟩ := conVal_ok hv
  exact ⟨a, z, v, rfl, val_str w2 ey, ⟨es, n, u, D.at_, D.lit, hu, rv⟩, k _ _ (Same.refl _) (.pureV (rep _ _ _) nm)⟩
theorem ve_ixK {a b : Expr} {f f' : VE} (ci : ConIn X.K X.w Cl) (ha : VEok X Cl a f) (hb : VEok X Cl b f') (hs : PlainIx b := by exact fun _ _ => rfl) : VEok X Cl (.Subscript a b pos) (v2 gIxK f f') := by
  obtain ⟨ta, pa, qa⟩ := ha
  obtain ⟨tb, pb, qb⟩ := hb
  exact ⟨_, pe_ix ix_kdict pa pb hs, fun H0 G σ H env Fs ow rr Q S e k => op2 (ov_ixK ci) S qa qb e k⟩
def gInK (neg : Bool) : G2 := fun x y => match x.d, y.d with
  | .str z, .kdc kvs => some ⟨.bl (if neg then (lookD z kvs).isNone else (lookD z kvs).isSome), 2, []⟩
  | _, _ => none
def rInK (K : PySem.W.Frag) (w : World) (neg : Bool) : R2 := fun x y H Q => ∃ (a : Addr) (es : Array DictEntry) (n : Nat) (z : Str) (r : Option Value), KDict K w a es n ∧ x = .str z ∧ y = .ref a ∧ PySem.W.nsIn K a z = some r ∧ Q (.bl (if neg then r.isNone else r.isSome)) H
theorem op_inK : OpR X (compareOp .In) (rInK X.K X.w false) := by
  intro pins s σ H x y v u Q I rx ry h
  obtain ⟨a, es, n, z, r, D, rfl, rfl, e, q⟩ := h
  exact op_in_kd D pins s σ H _ _ v u Q I rx ry ⟨z, r, rfl, rfl, e, q⟩
theorem op_notinK : OpR X (compareOp .NotIn) (rInK X.K X.w true) := by
  intro pins s σ H x y v u Q I rx ry h
  obtain ⟨a, es, n, z, r, D, rfl, rfl, e, q⟩ := h
  refine op_notIn_kd D pins s σ H _ _ v u Q I rx ry ⟨z, r, rfl, rfl, e, ?_⟩
  cases r <;> exact q
theorem ov_inK {neg : Bool} (ci : ConIn X.K X.w Cl) : OpV X Cl (rInK X.K X.w neg) (gInK neg) := by
  intro Hs H1 H2 Fs x y rx ry rr Q s1 s2 w1 w2 e k
  unfold gInK at e
  split at e <;> (first | (cases e; done) | skip)
  rename_i z kvs ex ey
  cases e
  obtain ⟨F, r1⟩ := w2.rep
  rw [ey] at r1
  obtain ⟨a, rfl, ha⟩ := kdc_of r1
  obtain ⟨⟨es, n, D⟩, hk⟩ := ci a kvs ha
  have q := kdcB_ok hk z
  cases el : lookD z kvs with
  | none =>
    rw [el] at q
    refine ⟨a, es, n, z, none, D, val_str w1 ex, rfl, q, ?_⟩
    have := k _ _ (Same.refl _) (.pureV (.bl _) rfl)
    rw [el] at this
    exact this
  | some d =>
    rw [el] at q
    obtain ⟨u, hu, _⟩ := q
    refine ⟨a, es, n, z, some u, D, val_str w1 ex, rfl, hu, ?_⟩
    have := k _ _ (Same.refl _) (.pureV (.bl _) rfl)
    rw [el] at this
    exact this
theorem ve_inK {a b : Expr} {f f' : VE} (ci : ConIn X.K X.w Cl) (ha : VEok X Cl a f) (hb : VEok X Cl b f') (hm : behindInMarks .In b = false := by rfl) : VEok X Cl (.Compare a [.In] [b] pos) (v2 (gInK false) f f') := ve_cmp op_inK (ov_inK ci) ha hb hm
theorem ve_notinK {a b : Expr} {f f' : VE} (ci : ConIn X.K X.w Cl) (ha : VEok X Cl a f) (hb : VEok X Cl b f') (hm : behindInMarks .NotIn b = false := by rfl) : VEok X Cl (.Compare a [.NotIn] [b] pos) (v2 (gInK true) f f') := ve_cmp op_notinK (ov_inK ci) ha hb hm
theorem vt_inK {a b : Expr} {f f' : VE} (ci : ConIn X.K X.w Cl) (ha : VEok X Cl a f) (hb : VEok X Cl b f') (hm : behindInMarks .In b = false := by rfl) : VTok X Cl (.Compare a [.In] [b] pos) (tB_ (v2 (gInK false) f f')) := vt_cmpR op_inK (ov_inK ci) ha hb hm
theorem vt_notinK {a b : Expr} {f f' : VE} (ci : ConIn X.K X.w Cl) (ha : VEok X Cl a f) (hb : VEok X Cl b f') (hm : behindInMarks .NotIn b = false := by rfl) : VTok X Cl (.Compare a [.NotIn] [b] pos) (tB_ (v2 (gInK true) f f')) := vt_cmpR op_notinK (ov_inK ci) ha hb hm

/-! ### texts -/
def gIxA : G2 := fun x y => match y.d with
  | .int i => (match x.d with
    | .str z => if z.length ≤ 16777216 then (match atI z.cps.toList i with
        | some c => some ⟨.str ⟨#[c]⟩, 2, []⟩
        | none => none) else none
    | _ => atD x i)
  | _ => none
theorem ov_ixA : OpV X Cl (fun x y H Q => (rIxL X.K x y H Q ∨ rIxT X.K x y H Q) ∨ rIxS x y H Q) gIxA := by
  intro Hs H1 H2 Fs x y rx ry rr Q s1 s2 w1 w2 e k
  unfold gIxA at e
  split at e <;> (first | (cases e; done) | skip)
  rename_i i ei
  split at e
  · rename_i z ez
    split at e <;> (first | (cases e; done) | skip)
    rename_i hl
    split at e <;> (first | (cases e; done) | skip)
    rename_i c ec
    cases e
    exact .inr ⟨z, i, c, val_str w1 ez, val_int w2 ei, line_eq hl, ec, k _ _ (Same.refl _) (.pureV (.str _) rfl)⟩
  · exact .inl (ov_ix Hs H1 H2 Fs x y rx ry rr Q s1 s2 w1 w2 (by unfold gIx; rw [ei]; exact e) k)
theorem ve_ixA {a b : Expr} {f f' : VE} (ha : VEok X Cl a f) (hb : VEok X Cl b f') (hs : PlainIx b := by exact fun _ _ => rfl) : VEok X Cl (.Subscript a b pos) (v2 gIxA f f') := by
  obtain ⟨ta, pa, qa⟩ := ha
  obtain ⟨tb, pb, qb⟩ := hb
  exact ⟨_, pe_ix ((ix_list.or ix_tup).or ix_str) pa pb hs, fun H0 G σ H env Fs ow rr Q S e k => op2 ov_ixA S qa qb e k⟩
/-- a method of texts without arguments -/
def gStr (g : Str → D) : Rv → Option Rv := fun x => match x.d with
  | .str a => some ⟨g a, 2, []⟩
  | _ => none
theorem ve_m0 {id : String} {name : Str} {o : Expr} {apos : Pos} {f : VE} {g : Str → V} {g' : Str → D} (slot : PySem.Slot "str" name id) (ty : typeOf (.builtin id) = pure (.type "method_descriptor")) (rule : MtR X id (fun x xs H Q => ∃ a, x = .str a ∧ xs = [] ∧ True ∧ Q (g a) H))
    (hg : ∀ K H a, Rep K Cl H (fun _ => False) (g a) (g' a)) (hn : ∀ a, noMut (g' a) = true) (ho : VEok X Cl o f) (hbase : attributeBase o name X.env (eval o X.env) = eval o X.env := by rfl) (hline : (apos.endLine == pos.line) = true := by rfl) :
    VEok X Cl (.Call (.Attribute o name apos) [] [] pos) (v1 (gStr g') f) := by
  obtain ⟨t, po, qo⟩ := ho
  refine ⟨_, pe_m0 slot ty rule po hbase hline, fun H0 G σ H env Fs ow r Q S e k => ?_⟩
  unfold v1 at e
  split at e <;> (first | (cases e; done) | skip)
  rename_i x ex
  unfold gStr at e
  split at e <;> (first | (cases e; done) | skip)
  rename_i a ea
  cases e
  refine qo _ _ _ _ _ _ _ _ _ S ex fun v H1 s1 w1 => ?_
  have hv := val_str w1 ea
  exact ⟨⟨a, hv⟩, a, hv, rfl, trivial, k _ _ s1 (.pureV (hg _ _ _) (hn _))⟩
theorem ve_isdigit {o : Expr} {apos : Pos} {f : VE} (ho : VEok X Cl o f) (hbase : attributeBase o "isdigit" X.env (eval o X.env) = eval o X.env := by rfl) (hline : (apos.endLine == pos.line) = true := by rfl) :
    VEok X Cl (.Call (.Attribute o "isdigit" apos) [] [] pos) (v1 (gStr fun a => .bl (Txt.isdigit a)) f) := ve_m0 F.slot_str_isdigit F.type_str_isdigit mt_isdigit (fun _ _ _ => .bl _) (fun _ => rfl) ho hbase hline
theorem ve_isascii {o : Expr} {apos : Pos} {f : VE} (ho : VEok X Cl o f) (hbase : attributeBase o "isascii" X.env (eval o X.env) = eval o X.env := by rfl) (hline : (apos.endLine == pos.line) = true := by rfl) :
    VEok X Cl (.Call (.Attribute o "isascii" apos) [] [] pos) (v1 (gStr fun a => .bl (Txt.isascii a)) f) := ve_m0 F.slot_str_isascii F.type_str_isascii mt_isascii (fun _ _ _ => .bl _) (fun _ => rfl) ho hbase hline
def strsD (ys : List Str) : List D := ys.map D.str
theorem noMut_strs : ∀ ys : List Str, noMutL (strsD ys) = true
  | [] => by rw [strsD, List.map_nil, noMutL]
  | y :: r => by
    show noMutL (.str y :: strsD r) = true
    rw [noMutL, noMut, noMut_strs r]; rfl
theorem reps_strs {K : PySem.W.Frag} {H : Hp} {F : ASet} : ∀ ys : List Str, Reps K Cl H F (ys.map V.str) (strsD ys)
  | [] => .nil
  | y :: r => .cons (.str y) (reps_strs r)
/-- a.split(b) -/
def vSplit (fo fe : VE) : VE := fun env => match fo env with
  | some x => (match fe env with
    | some y => (match x.d, y.d with
      | .str a, .str b => if (b.length == 0) = false ∧ a.length ≤ 16777000 then some ⟨.lst (strsD (Txt.split a b)), 2, []⟩ else none
      | _, _ => none)
    | none => none)
  | none => none
theorem ve_split {o e : Expr} {apos : Pos} {fo fe : VE} (ho : VEok X Cl o fo) (he : VEok X Cl e fe) (hs : starEach [e] X.env = [(false, eval e X.env)] := by rfl) (hbase : attributeBase o "split" X.env (eval o X.env) = eval o X.env := by rfl) (hline : (apos.endLine == pos.line) = true := by rfl) :
    VEok X Cl (.Call (.Attribute o "split" apos) [e] [] pos) (vSplit fo fe) := by
  obtain ⟨to, po, qo⟩ := ho
  obtain ⟨te, pe, qe⟩ := he
  refine ⟨_, pe_split po pe hs hbase hline, fun H0 G σ H env Fs ow r Q S er k => ?_⟩
  unfold vSplit at er
  split at er <;> (first | (cases er; done) | skip)
  rename_i x ex
  split at er <;> (first | (cases er; done) | skip)
  rename_i y ey
  split at er <;> (first | (cases er; done) | skip)
  rename_i a b ea eb
  split at er <;> (first | (cases er; done) | skip)
  rename_i hc
  cases er
  refine qo _ _ _ _ _ _ _ _ _ S ex fun v H1 s1 w1 => ?_
  have hv := val_str w1 ea
  refine ⟨⟨a, hv⟩, qe _ _ _ _ _ _ _ _ _ (S.go s1) ey fun u H2 s2 w2 => ?_⟩
  have hu := val_str w2 eb
  refine ⟨a, b, hv, by rw [hu], hc.1, line_eq (by have := hc.2; omega), fun p hp => ?_⟩
  have := new_list (K := X.K) (Cl := Cl) (es := strsD (Txt.split a b)) (al := []) (Fs := Fs) (Hs := H) (s1.trans s2) (reps_strs (F := fun _ => False) _) (fun _ z => z.elim) (fun _ z => z.elim) hp
  unfold mkL at this
  rw [if_pos (noMut_strs _)] at this
  exact k _ _ ((s1.trans s2).trans (same_upd hp)) this
/-- a.join(b) -/
def unstr : List D → Option (List Str)
  | [] => some []
  | .str x :: r => (match unstr r with
    | some ys => some (x :: ys)
    | none => none)
  | _ :: _ => none
theorem unstr_ok {K : PySem.W.Frag} {H : Hp} {F : ASet} : ∀ {vs : List V} {ds : List D} {ys : List Str}, Reps K Cl H F vs ds → unstr ds = some ys → vs = ys.map V.str
  | _, _, _, .nil, e => by cases e; rfl
  | _, _, _, @Reps.cons _ _ _ _ v d vs ds a b, e => by
    cases d <;> first | (cases e; done) | skip
    unfold unstr at e
    split at e <;> (first | (cases e; done) | skip)
    rename_i ys ey
    cases e
    rw [List.map_cons, a.str_of, unstr_ok b ey]
def joinOk (a : Str) (ys : List Str) : Bool := decide ((ys.map (·.length)).sum + ys.length * a.length ≤ 16777216)
def vJoin (fo fe : VE) : VE := fun env => match fo env with
  | some x => (match fe env with
    | some y => (match x.d, itemsOf y.d with
      | .str a, some ds => (match unstr ds with
        | some ys => if joinOk a ys = true then some ⟨.str (Txt.join a ys), 2, []⟩ else none
        | none => none)
      | _, _ => none)
    | none => none)
  | none => none
theorem ve_join {o e : Expr} {apos : Pos} {fo fe : VE} (ho : VEok X Cl o fo) (he : VEok X Cl e fe) (hs : starEach [e] X.env = [(false, eval e X.env)] := by rfl) (hbase : attributeBase o "join" X.env (eval o X.env) = eval o X.env := by rfl) (hline : (apos.endLine == pos.line) = true := by rfl) :
    VEok X Cl (.Call (.Attribute o "join" apos) [e] [] pos) (vJoin fo fe) := by
  obtain ⟨to, po, qo⟩ := ho
  obtain ⟨te, pe, qe⟩ := he
  refine ⟨_, pe_join po pe hs hbase hline, fun H0 G σ H env Fs ow r Q S er k => ?_⟩
  unfold vJoin at er
  split at er <;> (first | (cases er; done) | skip)
  rename_i x ex
  split at er <;> (first | (cases er; done) | skip)
  rename_i y ey
  split at er <;> (first | (cases er; done) | skip)
  rename_i a ds ea eds
  split at er <;> (first | (cases er; done) | skip)
  rename_i ys eys
  split at er <;> (first | (cases er; done) | skip)
  rename_i hc
  cases er
  refine qo _ _ _ _ _ _ _ _ _ S ex fun v H1 s1 w1 => ?_
  have hv := val_str w1 ea
  refine ⟨⟨a, hv⟩, qe _ _ _ _ _ _ _ _ _ (S.go s1) ey fun u H2 s2 w2 => ?_⟩
  obtain ⟨F, ru⟩ := w2.rep
  have fin : ∃ b, u = .ref b ∧ (SqL X.K H2 b (ys.map V.str) ∨ SqT X.K H2 b (ys.map V.str)) := by
    unfold itemsOf at eds
    cases hd : y.d <;> rw [hd] at eds ru <;> first | (cases eds; done) | skip
    · cases eds
      obtain ⟨b, us, rfl, hb, _, rb⟩ := ru.lst_of
      rw [← unstr_ok rb eys]
      exact ⟨b, rfl, .inl (SqL.of hb)⟩
    · cases eds
      obtain ⟨b, us, rfl, hb, rb⟩ := ru.tup_of
      rw [← unstr_ok rb eys]
      exact ⟨b, rfl, .inr hb⟩
  obtain ⟨b, rfl, hb⟩ := fin
  exact ⟨a, b, ys, hv, rfl, hb, of_decide_eq_true hc, k _ _ (s1.trans s2) (.pureV (.str _) rfl)⟩
/-- str of an int or a text -/
def gStrC : Rv → Option Rv := fun x => match x.d with
  | .int i => if i.natAbs.log2 < 1920 then some ⟨.str (toString i), 2, []⟩ else none
  | .str z => some ⟨.str z, 2, []⟩
  | _ => none
theorem cv_str : CallV1 X Cl (fun xs H Q => (∃ i, xs = [V.int i] ∧ i.natAbs.log2 < 1920 ∧ Q (.str (toString i)) H) ∨ ∃ a, xs = [V.str a] ∧ Q (.str a) H) gStrC := by
  intro Hs H Fs v x rr Q s w e k
  unfold gStrC at e
  split at e
  · rename_i i ed
    split at e <;> (first | (cases e; done) | skip)
    rename_i hl
    cases e
    exact .inl ⟨i, by rw [val_int w ed], hl, k _ _ (Same.refl _) (.pureV (.str _) rfl)⟩
  · rename_i z ed
    cases e
    exact .inr ⟨z, by rw [val_str w ed], k _ _ (Same.refl _) (.pureV (.str _) rfl)⟩
  · cases e
theorem ve_strc {e : Expr} {fa : VA} (hm : X.mg "str" = none) (ha : VAok X Cl [e] fa) (hg : Gl X "str" := by rfl) (he : starEach [e] X.env = (false, eval e X.env) :: starEach [] X.env := by rfl) (hpl : (backTo pos (starEach [] X.env)).any (·.1) = false := by rfl) :
    VEok X Cl (.Call (.Name "str" p) [e] [] pos) (vCall (g1 gStrC) fa) := ve_callTy (call_str_int.or SkE.call_str_str) cv_str.all hm ha (by decide +kernel) hg (by decide) (by decide) he hpl
/-- int, of texts too -/
def gIntA : Rv → Option Rv := fun x => match x.d with
  | .str a => if a.length ≤ 640 then (match PySem.intText? a with
    | some n => some ⟨.int n, 2, []⟩
    | none => none) else none
  | _ => gInt x
theorem cv_intA : CallV1 X Cl (fun xs H Q => ((∃ i, xs = [V.int i] ∧ Q (.int i) H) ∨ ∃ k, xs = [V.bl k] ∧ Q (.int (if k then 1 else 0)) H) ∨ ∃ a n, xs = [V.str a] ∧ PySem.intText? a = some n ∧ a.length ≤ 640 ∧ Q (.int n) H) gIntA := by
  intro Hs H Fs v x rr Q s w e k
  unfold gIntA at e
  split at e
  · rename_i a ed
    split at e <;> (first | (cases e; done) | skip)
    rename_i hl
    split at e <;> (first | (cases e; done) | skip)
    rename_i n en
    cases e
    exact .inr ⟨a, n, by rw [val_str w ed], en, hl, k _ _ (Same.refl _) (.pureV (.int _) rfl)⟩
  · exact .inl (cv_int Hs H Fs v x rr Q s w e k)
theorem ve_intA {e : Expr} {fa : VA} (hm : X.mg "int" = none) (ha : VAok X Cl [e] fa) (hg : Gl X "int" := by rfl) (he : starEach [e] X.env = (false, eval e X.env) :: starEach [] X.env := by rfl) (hpl : (backTo pos (starEach [] X.env)).any (·.1) = false := by rfl) :
    VEok X Cl (.Call (.Name "int" p) [e] [] pos) (vCall (g1 gIntA) fa) := ve_callTy (call_int1.or call_int_str) cv_intA.all hm ha (by decide +kernel) hg (by decide) (by decide) he hpl
end
end VL
namespace VL
open PySem PySem.Spec L2 PyProof.Rows
abbrev clC (Cs : List Addr) (l : List (Addr × List (Str × D))) : ClsT := { cls := fun c => Cs[c]?, con := conOf l }
end VL

namespace VL
open PySem PySem.Spec L2 PyProof.Rows
def topS (i : Nat) : Stmt := PySem.Challenge.pw_fullhands_k13_run_text_back.main.body.getD i (.Pass ⟨0, 0, 0, 0⟩)
def row_ValueError : List (Nat × Bool) := [(0, true), (1, true), (2, true), (3, true), (4, true), (5, true), (6, true), (7, true), (8, true), (9, true), (10, true), (11, true), (12, true), (13, true), (14, true), (15, true), (16, true), (17, true), (18, true), (19, true), (20, true)]
def row_BadText : List (Nat × Bool) := [(0, false), (1, false), (2, true), (3, false), (4, false), (5, false), (6, false), (7, false), (8, false), (9, false), (10, false), (11, false), (12, false), (13, false), (14, false), (15, false), (16, false), (17, false), (18, false), (19, false), (20, false)]
def row_FullhandsError : List (Nat × Bool) := [(0, true), (1, true), (2, true), (3, true), (4, true), (5, true), (6, true), (7, true), (8, true), (9, true), (10, true), (11, true), (12, true), (13, true), (14, true), (15, true), (16, true), (17, true), (18, true), (19, true), (20, true)]
def rowT_Attled_Bading_Badine_Badads_BadLot_Badram_Bading_Badble_Badtor_Canove_Impble_InUUse_NoSuch_Notore_Notcal_Notedo_Notndo_Tooeat_Wround : List (Nat × Bool) := [(0, false), (1, true), (2, false), (3, true), (4, true), (5, true), (6, true), (7, true), (8, true), (9, true), (10, true), (11, true), (12, true), (13, true), (14, true), (15, true), (16, true), (17, true), (18, true), (19, true), (20, true)]
def K_FORMS : List (Str × VL.D) := [("enter", .int 1), ("pass", .int 2), ("swap", .int 4)]
abbrev s_law_mixed : Stmt := topS 32
theorem sc_law_mixed : FnScope ["number", "turn", "first", "second"] ["number", "turn"] (defScope s_law_mixed) := ⟨rfl, rfl, rfl, by decide +kernel, rfl, by decide +kernel, by decide +kernel⟩
def b_law_mixed : VS := vSeq (vSet 2 (v2 (gIC (fun _ j => decide (0 < j)) fun i j => .int (i % j)) (vCall (g1 gInt) (vCons (v2 gAdd (v2 gAdd (v2 gMul (vName 0) (vC (.int 48271))) (v2 gMul (vName 1) (vC (.int 69621)))) (vC (.int 11))) (fun _ => some []))) (vC (.int 2147483647))))
  (vSeq (vSet 3 (v2 (gIC (fun _ j => decide (0 < j)) fun i j => .int (i % j)) (vCall (g1 gInt) (vCons (v2 gAdd (v2 gAdd (v2 gMul (vName 2) (vName 2)) (v2 gMul (vName 1) (vC (.int 40692)))) (vC (.int 7))) (fun _ => some []))) (vC (.int 2147483399))))
  (vRet (v2 (gIC (fun _ j => decide (0 < j)) fun i j => .int (i % j)) (vCall (g1 gInt) (vCons (v2 (gIC (fun _ j => decide (0 < j) && decide (j < 1073741824)) fun i j => .int (i / j)) (vName 3) (vC (.int 7))) (fun _ => some []))) (vC (.int 1000)))))
def c_law_mixed : CF := vDef 4 b_law_mixed
set_option maxHeartbeats 4000000 in
theorem ok_law_mixed {P : Program} {w : World} {K : PySem.W.Frag} {mg : Str → Option Value} {base : Heap} {Cl : ClsT} {f : Addr} {fd : FuncData} (F : Fun K "_law_mixed" "_law_mixed" s_law_mixed f fd) (B_int : mg "int" = none) : FnOk P w K mg base (L2.CX P w) 1 f fd ["number", "turn"] (spV K Cl 2 c_law_mixed) := by
  refine fn_v F sc_law_mixed rfl (fun cdv A outer s H E hr => ?_)
  have nd := sc_law_mixed.nd
  have hp : PassesOwn (model P w) (bodyCx P w K mg base ["number", "turn", "first", "second"] "_law_mixed" s_law_mixed f cdv A outer s H E).A (bodyCx P w K mg base ["number", "turn", "first", "second"] "_law_mixed" s_law_mixed f cdv A outer s H E).env (bodyCx P w K mg base ["number", "turn", "first", "second"] "_law_mixed" s_law_mixed f cdv A outer s H E).xe := passes_of rfl
  have hu := hr.units
  have hu5 := room65 hr
  exact (vb_cons (vs_set 2 nd (ve_mod (ve_intc B_int (va_cons (ve_add (ve_add (ve_mul (ve_name 0) (ve_int)) (ve_mul (ve_name 1) (ve_int))) (ve_int)) va_nil)) (ve_int)))
  (vb_cons (vs_set 3 nd (ve_mod (ve_intc B_int (va_cons (ve_add (ve_add (ve_mul (ve_name 2) (ve_name 2)) (ve_mul (ve_name 1) (ve_int))) (ve_int)) va_nil)) (ve_int)))
  (vb_one (vs_ret (ve_mod (ve_intc B_int (va_cons (ve_fdiv (ve_name 3) (ve_int)) va_nil)) (ve_int))))))
abbrev s_law_pool : Stmt := topS 33
theorem sc_law_pool : FnScope ["script", "many", "cells", "cell", "digits", "row", "rest", "turn", "pool", "k", "at"] ["script", "many"] (defScope s_law_pool) := ⟨rfl, rfl, rfl, by decide +kernel, rfl, by decide +kernel, by decide +kernel⟩
def b_law_pool : VS := vSeq (vSet 2 (vComp (iSeq (vSlice (vName 0) (fun _ => some none) (vPart (vC (.int 63))))) [3] (gN 3) (fun _ => some true) (vCall (g1 gAbs) (vCons (vCall (g1 gInt) (vCons (vName 3) (fun _ => some []))) (fun _ => some [])))))
  (vSeq (vIfS (tB_ (v2 (gEq false) (vName 2) (vLst (fun _ => some [])))) (vSet 2 (vLst (vCons (vC (.int 0)) (fun _ => some [])))) ((fun e => .nx e)))
  (vSeq (vSet 4 (vLst (fun _ => some [])))
  (vSeq (vFor (iSeq (vName 2)) (gN 3) (vSeq (vSet 5 (vLst (fun _ => some [])))
  (vSeq (vSet 6 (vName 3))
  (vSeq (vIfS (tB_ (v2 (gI fun i j => .bl (decide (j ≤ i))) (vName 3) (v2 (gIC (fun i j => decide (0 ≤ j) && (decide (j ≤ 1000000) && decide (i.natAbs < 2 ^ 64))) fun i j => .int (i ^ j.toNat)) (vC (.int 10)) (vC (.int 18))))) (vFor (iRange1 (vCons (vC (.int 90)) (fun _ => some []))) (gN 7) (vIfS (tB_ (v2 (gI fun i j => .bl (decide (j < i))) (vName 6) (vC (.int 0)))) (vSeq (vApp 5 (v2 (gIC (fun _ j => decide (0 < j)) fun i j => .int (i % j)) (vCall (g1 gInt) (vCons (vName 6) (fun _ => some []))) (vC (.int 1000))))
  (vSet 6 (v2 (gIC (fun _ j => decide (0 < j) && decide (j < 1073741824)) fun i j => .int (i / j)) (vName 6) (vC (.int 1000))))) ((fun e => .nx e)))) ((fun e => .nx e)))
  (vApp 4 (vName 5))))))
  (vSeq (vSet 8 (vLst (fun _ => some [])))
  (vSeq (vFor (iRange1 (vCons (vName 1) (fun _ => some []))) (gN 9) (vSeq (vSet 10 (v2 (gIC (fun _ j => decide (0 < j)) fun i j => .int (i % j)) (vCall (g1 gInt) (vCons (vName 9) (fun _ => some []))) (vCall (g1 gLen) (vCons (vName 2) (fun _ => some [])))))
  (vSeq (vSet 7 (v2 (gIC (fun _ j => decide (0 < j) && decide (j < 1073741824)) fun i j => .int (i / j)) (vName 9) (vCall (g1 gLen) (vCons (vName 2) (fun _ => some [])))))
  (vIfS (tB_ (v2 (gI fun i j => .bl (decide (i < j))) (vName 7) (vCall (g1 gLen) (vCons (v2 gIx (vName 4) (vName 10)) (fun _ => some []))))) (vApp 8 (v2 gIx (v2 gIx (vName 4) (vName 10)) (vName 7))) (vApp 8 (vCallF c_law_mixed (vCons (v2 gAdd (v2 (gIC (fun _ j => decide (0 < j)) fun i j => .int (i % j)) (vCall (g1 gInt) (vCons (v2 gIx (vName 2) (vName 10)) (fun _ => some []))) (vC (.int 1000003))) (v2 gMul (vC (.int 7919)) (vName 10))) (vCons (v2 gAdd (vName 7) (vC (.int 1))) (fun _ => some [])))))))))
  (vRetName 8))))))
def c_law_pool : CF := vDef 11 b_law_pool
set_option maxHeartbeats 4000000 in
theorem ok_law_pool {P : Program} {w : World} {K : PySem.W.Frag} {mg : Str → Option Value} {base : Heap} {Cl : ClsT} {f : Addr} {fd : FuncData} (F : Fun K "_law_pool" "_law_pool" s_law_pool f fd) (B_abs : mg "abs" = none) (B_int : mg "int" = none) (B_len : mg "len" = none) (B_range : mg "range" = none) (H_law_mixed : FnH P w K mg base Cl 1 2 "_law_mixed" ["number", "turn"] c_law_mixed) : FnOk P w K mg base (L2.CX P w) 2 f fd ["script", "many"] (spV K Cl 2 c_law_pool) := by
  refine fn_v F sc_law_pool rfl (fun cdv A outer s H E hr => ?_)
  have nd := sc_law_pool.nd
  have hp : PassesOwn (model P w) (bodyCx P w K mg base ["script", "many", "cells", "cell", "digits", "row", "rest", "turn", "pool", "k", "at"] "_law_pool" s_law_pool f cdv A outer s H E).A (bodyCx P w K mg base ["script", "many", "cells", "cell", "digits", "row", "rest", "turn", "pool", "k", "at"] "_law_pool" s_law_pool f cdv A outer s H E).env (bodyCx P w K mg base ["script", "many", "cells", "cell", "digits", "row", "rest", "turn", "pool", "k", "at"] "_law_pool" s_law_pool f cdv A outer s H E).xe := passes_of rfl
  have hu := hr.units
  have hu5 := room65 hr
  exact (vb_cons (vs_setLc 2 (own := [("cell", 3)]) rfl nd (vi_seq (ve_slice (ve_name 0) vo_none (vo_some (ve_int)))) (blkOk_by (N := ["script", "many", "cells", "cell", "digits", "row", "rest", "turn", "pool", "k", "at"]) (sc := defScope s_law_pool) (by decide +kernel)) (fun _ _ _ _ _ => vg_name 3 nd) (fun _ _ _ _ _ => vts_nil) (fun _ _ _ _ _ => ve_abs B_abs (va_cons (ve_intc B_int (va_cons (ve_name 3) va_nil)) va_nil)) (by decide))
  (vb_cons (vs_if (vt_eq hu (ve_name 2) (ve_lst va_nil)) (vb_one (vs_set 2 nd (ve_lst (va_cons (ve_int) va_nil)))) (vb_nil))
  (vb_cons (vs_set 4 nd (ve_lst va_nil))
  (vb_cons (vs_for hp rfl (vi_seq (ve_name 2)) (vg_name 3 nd) (vb_cons (vs_set 5 nd (ve_lst va_nil))
  (vb_cons (vs_set 6 nd (ve_name 3))
  (vb_cons (vs_if (vt_ge (ve_name 3) (ve_pow (ve_int) (ve_int))) (vb_one (vs_for hp rfl (vi_range1 B_range (va_cons (ve_int) va_nil)) (vg_name 7 nd) (vb_one (vs_if (vt_gt (ve_name 6) (ve_int)) (vb_cons (vs_append 5 (ve_mod (ve_intc B_int (va_cons (ve_name 6) va_nil)) (ve_int)))
  (vb_one (vs_set 6 nd (ve_fdiv (ve_name 6) (ve_int))))) (vb_nil))))) (vb_nil))
  (vb_one (vs_append 4 (ve_name 5)))))))
  (vb_cons (vs_set 8 nd (ve_lst va_nil))
  (vb_cons (vs_for hp rfl (vi_range1 B_range (va_cons (ve_name 1) va_nil)) (vg_name 9 nd) (vb_cons (vs_set 10 nd (ve_mod (ve_intc B_int (va_cons (ve_name 9) va_nil)) (ve_len B_len (va_cons (ve_name 2) va_nil))))
  (vb_cons (vs_set 7 nd (ve_fdiv (ve_name 9) (ve_len B_len (va_cons (ve_name 2) va_nil))))
  (vb_one (vs_if (vt_lt (ve_name 7) (ve_len B_len (va_cons (ve_ix (ve_name 4) (ve_name 10)) va_nil))) (vb_one (vs_append 8 (ve_ix (ve_ix (ve_name 4) (ve_name 10)) (ve_name 7)))) (vb_one (vs_append 8 (ve_callH H_law_mixed (hr.mono (by decide)) rfl (va_cons (ve_add (ve_mod (ve_intc B_int (va_cons (ve_ix (ve_name 2) (ve_name 10)) va_nil)) (ve_int)) (ve_mul (ve_int) (ve_name 10))) (va_cons (ve_add (ve_name 7) (ve_int)) va_nil)) (len_cons (len_cons len_nil))))))))))
  (vb_one (vs_retName 8))))))))
abbrev s_law_moves : Stmt := topS 35
theorem sc_law_moves : FnScope ["pool", "start", "many", "run", "turn", "at", "bound", "numbers", "k", "form"] ["pool", "start", "many"] (defScope s_law_moves) := ⟨rfl, rfl, rfl, by decide +kernel, rfl, by decide +kernel, by decide +kernel⟩
def b_law_moves : VS := vSeq (vSet 3 (vLst (fun _ => some [])))
  (vSeq (vFor (iRange1 (vCons (vName 2) (fun _ => some []))) (gN 4) (vSeq (vSet 5 (v2 gAdd (vName 1) (v2 gMul (vC (.int 6)) (vName 4))))
  (vSeq (vSet 6 (v2 gIx (vLst (vCons (vC (.int 10)) (vCons (vC (.int 100)) (fun _ => some [])))) (v2 (gIC (fun _ j => decide (0 < j)) fun i j => .int (i % j)) (vCall (g1 gInt) (vCons (v2 gIx (vName 0) (v2 gAdd (vName 5) (vC (.int 5)))) (fun _ => some []))) (vC (.int 2)))))
  (vSeq (vSet 7 (vComp (iRange1 (vCons (vC (.int 4)) (fun _ => some []))) [8] (gN 8) (fun _ => some true) (v2 (gIC (fun _ j => decide (0 < j)) fun i j => .int (i % j)) (vCall (g1 gInt) (vCons (v2 gIx (vName 0) (v2 gAdd (v2 gAdd (vName 5) (vC (.int 1))) (vName 8))) (fun _ => some []))) (vName 6))))
  (vSeq (vSet 9 (v2 (gIC (fun _ j => decide (0 < j)) fun i j => .int (i % j)) (vCall (g1 gInt) (vCons (v2 gIx (vName 0) (vName 5)) (fun _ => some []))) (vC (.int 3))))
  (vIfS (tB_ (v2 (gEq false) (vName 9) (vC (.int 0)))) (vApp 3 (vTup (vCons (vC (.str "enter")) (vCons (v2 gIx (vName 7) (vC (.int 0))) (fun _ => some []))))) (vIfS (tB_ (v2 (gEq false) (vName 9) (vC (.int 1)))) (vApp 3 (vTup (vCons (vC (.str "pass")) (vCons (v2 gIx (vName 7) (vC (.int 0))) (vCons (v2 gIx (vName 7) (vC (.int 1))) (fun _ => some [])))))) (vApp 3 (vTup (vCons (vC (.str "swap")) (vCons (v2 gIx (vName 7) (vC (.int 0))) (vCons (v2 gIx (vName 7) (vC (.int 1))) (vCons (v2 gIx (vName 7) (vC (.int 2))) (vCons (v2 gIx (vName 7) (vC (.int 3))) (fun _ => some [])))))))))))))))
  (vRetName 3))
def c_law_moves : CF := vDef 10 b_law_moves
set_option maxHeartbeats 4000000 in
theorem ok_law_moves {P : Program} {w : World} {K : PySem.W.Frag} {mg : Str → Option Value} {base : Heap} {Cl : ClsT} {f : Addr} {fd : FuncData} (F : Fun K "_law_moves" "_law_moves" s_law_moves f fd) (B_int : mg "int" = none) (B_range : mg "range" = none) : FnOk P w K mg base (L2.CX P w) 1 f fd ["pool", "start", "many"] (spV K Cl 3 c_law_moves) := by
  refine fn_v F sc_law_moves rfl (fun cdv A outer s H E hr => ?_)
  have nd := sc_law_moves.nd
  have hp : PassesOwn (model P w) (bodyCx P w K mg base ["pool", "start", "many", "run", "turn", "at", "bound", "numbers", "k", "form"] "_law_moves" s_law_moves f cdv A outer s H E).A (bodyCx P w K mg base ["pool", "start", "many", "run", "turn", "at", "bound", "numbers", "k", "form"] "_law_moves" s_law_moves f cdv A outer s H E).env (bodyCx P w K mg base ["pool", "start", "many", "run", "turn", "at", "bound", "numbers", "k", "form"] "_law_moves" s_law_moves f cdv A outer s H E).xe := passes_of rfl
  have hu := hr.units
  have hu5 := room65 hr
  exact (vb_cons (vs_set 3 nd (ve_lst va_nil))
  (vb_cons (vs_for hp rfl (vi_range1 B_range (va_cons (ve_name 2) va_nil)) (vg_name 4 nd) (vb_cons (vs_set 5 nd (ve_add (ve_name 1) (ve_mul (ve_int) (ve_name 4))))
  (vb_cons (vs_set 6 nd (ve_ix (ve_lst (va_cons (ve_int) (va_cons (ve_int) va_nil))) (ve_mod (ve_intc B_int (va_cons (ve_ix (ve_name 0) (ve_add (ve_name 5) (ve_int))) va_nil)) (ve_int))))
  (vb_cons (vs_setLc 7 (own := [("k", 8)]) rfl nd (vi_range1 B_range (va_cons (ve_int) va_nil)) (blkOk_by (N := ["pool", "start", "many", "run", "turn", "at", "bound", "numbers", "k", "form"]) (sc := defScope s_law_moves) (by decide +kernel)) (fun _ _ _ _ _ => vg_name 8 nd) (fun _ _ _ _ _ => vts_nil) (fun _ _ _ _ _ => ve_mod (ve_intc B_int (va_cons (ve_ix (ve_name 0) (ve_add (ve_add (ve_name 5) (ve_int)) (ve_name 8))) va_nil)) (ve_name 6)) (by decide))
  (vb_cons (vs_set 9 nd (ve_mod (ve_intc B_int (va_cons (ve_ix (ve_name 0) (ve_name 5)) va_nil)) (ve_int)))
  (vb_one (vs_if (vt_eq hu (ve_name 9) (ve_int)) (vb_one (vs_append 3 (ve_tup (va_cons (ve_str) (va_cons (ve_ix (ve_name 7) (ve_int)) va_nil))))) (vb_one (vs_if (vt_eq hu (ve_name 9) (ve_int)) (vb_one (vs_append 3 (ve_tup (va_cons (ve_str) (va_cons (ve_ix (ve_name 7) (ve_int)) (va_cons (ve_ix (ve_name 7) (ve_int)) va_nil)))))) (vb_one (vs_append 3 (ve_tup (va_cons (ve_str) (va_cons (ve_ix (ve_name 7) (ve_int)) (va_cons (ve_ix (ve_name 7) (ve_int)) (va_cons (ve_ix (ve_name 7) (ve_int)) (va_cons (ve_ix (ve_name 7) (ve_int)) va_nil)))))))))))))))))
  (vb_one (vs_retName 3))))
abbrev s_law_joined_rows : Stmt := topS 37
theorem sc_law_joined_rows : FnScope ["rows", "text", "k", "words", "i"] ["rows"] (defScope s_law_joined_rows) := ⟨rfl, rfl, rfl, by decide +kernel, rfl, by decide +kernel, by decide +kernel⟩
def b_law_joined_rows : VS := vSeq (vSet 1 (vC (.str "")))
  (vSeq (vFor (iRange1 (vCons (vCall (g1 gLen) (vCons (vName 0) (fun _ => some []))) (fun _ => some []))) (gN 2) (vSeq (vIfS (tB_ (v2 (gI fun i j => .bl (decide (j < i))) (vName 2) (vC (.int 0)))) (vSet 1 (v2 gAdd (vName 1) (vC (.str "\n")))) ((fun e => .nx e)))
  (vSeq (vSet 3 (v2 gIx (v2 gIx (vName 0) (vName 2)) (vC (.int 0))))
  (vFor (iRange1 (vCons (vCall (g1 gLen) (vCons (vName 3) (fun _ => some []))) (fun _ => some []))) (gN 4) (vSeq (vIfS (tB_ (v2 (gI fun i j => .bl (decide (j < i))) (vName 4) (vC (.int 0)))) (vSet 1 (v2 gAdd (vName 1) (vC (.str " ")))) ((fun e => .nx e)))
  (vSet 1 (v2 gAdd (vName 1) (v2 gIx (vName 3) (vName 4)))))))))
  (vRetName 1))
def c_law_joined_rows : CF := vDef 5 b_law_joined_rows
set_option maxHeartbeats 4000000 in
theorem ok_law_joined_rows {P : Program} {w : World} {K : PySem.W.Frag} {mg : Str → Option Value} {base : Heap} {Cl : ClsT} {f : Addr} {fd : FuncData} (F : Fun K "_law_joined_rows" "_law_joined_rows" s_law_joined_rows f fd) (B_len : mg "len" = none) (B_range : mg "range" = none) : FnOk P w K mg base (L2.CX P w) 1 f fd ["rows"] (spV K Cl 1 c_law_joined_rows) := by
  refine fn_v F sc_law_joined_rows rfl (fun cdv A outer s H E hr => ?_)
  have nd := sc_law_joined_rows.nd
  have hp : PassesOwn (model P w) (bodyCx P w K mg base ["rows", "text", "k", "words", "i"] "_law_joined_rows" s_law_joined_rows f cdv A outer s H E).A (bodyCx P w K mg base ["rows", "text", "k", "words", "i"] "_law_joined_rows" s_law_joined_rows f cdv A outer s H E).env (bodyCx P w K mg base ["rows", "text", "k", "words", "i"] "_law_joined_rows" s_law_joined_rows f cdv A outer s H E).xe := passes_of rfl
  have hu := hr.units
  have hu5 := room65 hr
  exact (vb_cons (vs_set 1 nd (ve_str))
  (vb_cons (vs_for hp rfl (vi_range1 B_range (va_cons (ve_len B_len (va_cons (ve_name 0) va_nil)) va_nil)) (vg_name 2 nd) (vb_cons (vs_if (vt_gt (ve_name 2) (ve_int)) (vb_one (vs_set 1 nd (ve_add (ve_name 1) (ve_str)))) (vb_nil))
  (vb_cons (vs_set 3 nd (ve_ix (ve_ix (ve_name 0) (ve_name 2)) (ve_int)))
  (vb_one (vs_for hp rfl (vi_range1 B_range (va_cons (ve_len B_len (va_cons (ve_name 3) va_nil)) va_nil)) (vg_name 4 nd) (vb_cons (vs_if (vt_gt (ve_name 4) (ve_int)) (vb_one (vs_set 1 nd (ve_add (ve_name 1) (ve_str)))) (vb_nil))
  (vb_one (vs_set 1 nd (ve_add (ve_name 1) (ve_ix (ve_name 3) (ve_name 4)))))))))))
  (vb_one (vs_retName 1))))
abbrev s_is_number : Stmt := topS 23
theorem sc_is_number : FnScope ["word"] ["word"] (defScope s_is_number) := ⟨rfl, rfl, rfl, by decide +kernel, rfl, by decide +kernel, by decide +kernel⟩
def b_is_number : VS := vSeq (vIfS (tOr_ (tNot_ (tAnd_ (tV (v1 (gStr fun a => .bl (Txt.isascii a)) (vName 0))) (tV (v1 (gStr fun a => .bl (Txt.isdigit a)) (vName 0))))) (tB_ (v2 (gI fun i j => .bl (decide (j < i))) (vCall (g1 gLen) (vCons (vName 0) (fun _ => some []))) (vC (.int 2))))) (vRet (vC (.bl false))) ((fun e => .nx e)))
  (vRet (vOr (v2 (gEq false) (vCall (g1 gLen) (vCons (vName 0) (fun _ => some []))) (vC (.int 1))) (v2 (gEq true) (v2 gIxA (vName 0) (vC (.int 0))) (vC (.str "0")))))
def c_is_number : CF := vDef 1 b_is_number
set_option maxHeartbeats 4000000 in
theorem ok_is_number {P : Program} {w : World} {K : PySem.W.Frag} {mg : Str → Option Value} {base : Heap} {Cl : ClsT} {f : Addr} {fd : FuncData} (F : Fun K "is_number" "is_number" s_is_number f fd) (B_len : mg "len" = none) : FnOk P w K mg base (L2.CX P w) 1 f fd ["word"] (spV K Cl 1 c_is_number) := by
  refine fn_v F sc_is_number rfl (fun cdv A outer s H E hr => ?_)
  have nd := sc_is_number.nd
  have hp : PassesOwn (model P w) (bodyCx P w K mg base ["word"] "is_number" s_is_number f cdv A outer s H E).A (bodyCx P w K mg base ["word"] "is_number" s_is_number f cdv A outer s H E).env (bodyCx P w K mg base ["word"] "is_number" s_is_number f cdv A outer s H E).xe := passes_of rfl
  have hu := hr.units
  have hu5 := room65 hr
  exact (vb_cons (vs_if (vt_w (vw_or (vt_not (vt_w (vw_and (vt_val (ve_isascii (ve_name 0))) (vw_and1 (vt_val (ve_isdigit (ve_name 0))))))) (vw_or1 (vt_gt (ve_len B_len (va_cons (ve_name 0) va_nil)) (ve_int))))) (vb_one (vs_ret (ve_bl))) (vb_nil))
  (vb_one (vs_ret (ve_or (ve_eq hu (ve_len B_len (va_cons (ve_name 0) va_nil)) (ve_int)) (ve_one (ve_ne hu (ve_ixA (ve_name 0) (ve_int)) (ve_str)))))))
abbrev s_read_numbers : Stmt := topS 24
theorem sc_read_numbers : FnScope ["words", "word"] ["words"] (defScope s_read_numbers) := ⟨rfl, rfl, rfl, by decide +kernel, rfl, by decide +kernel, by decide +kernel⟩
def b_read_numbers : VS := vSeq (vIfS (tNot_ (tV (vCall (g1 gAll) (vCons (vComp (iSeq (vName 0)) [1] (gN 1) (fun _ => some true) (vCallF c_is_number (vCons (vName 1) (fun _ => some [])))) (fun _ => some []))))) (vRet (vC .non)) ((fun e => .nx e)))
  (vRet (vComp (iSeq (vName 0)) [1] (gN 1) (fun _ => some true) (vCall (g1 gIntA) (vCons (vName 1) (fun _ => some [])))))
def c_read_numbers : CF := vDef 2 b_read_numbers
set_option maxHeartbeats 4000000 in
theorem ok_read_numbers {P : Program} {w : World} {K : PySem.W.Frag} {mg : Str → Option Value} {base : Heap} {Cl : ClsT} {f : Addr} {fd : FuncData} (F : Fun K "read_numbers" "read_numbers" s_read_numbers f fd) (B_all : mg "all" = none) (B_int : mg "int" = none) (H_is_number : FnH P w K mg base Cl 1 1 "is_number" ["word"] c_is_number) : FnOk P w K mg base (L2.CX P w) 2 f fd ["words"] (spV K Cl 1 c_read_numbers) := by
  refine fn_v F sc_read_numbers rfl (fun cdv A outer s H E hr => ?_)
  have nd := sc_read_numbers.nd
  have hp : PassesOwn (model P w) (bodyCx P w K mg base ["words", "word"] "read_numbers" s_read_numbers f cdv A outer s H E).A (bodyCx P w K mg base ["words", "word"] "read_numbers" s_read_numbers f cdv A outer s H E).env (bodyCx P w K mg base ["words", "word"] "read_numbers" s_read_numbers f cdv A outer s H E).xe := passes_of rfl
  have hu := hr.units
  have hu5 := room65 hr
  exact (vb_cons (vs_if (vt_not (vt_val (ve_all rfl B_all (va_cons (ve_comp (own := [("word", 1)]) rfl nd (vi_seq (ve_name 0)) (blkOk_by (N := ["words", "word"]) (sc := defScope s_read_numbers) (by decide +kernel)) (fun _ _ _ _ _ => vg_name 1 nd) (fun _ _ _ _ _ => vts_nil) (fun _ _ _ _ _ => ve_callH H_is_number (hr.mono (by decide)) rfl (va_cons (ve_name 1) va_nil) (len_cons len_nil)) (by decide)) va_nil)))) (vb_one (vs_ret (ve_non))) (vb_nil))
  (vb_one (vs_ret (ve_comp (own := [("word", 1)]) rfl nd (vi_seq (ve_name 0)) (blkOk_by (N := ["words", "word"]) (sc := defScope s_read_numbers) (by decide +kernel)) (fun _ _ _ _ _ => vg_name 1 nd) (fun _ _ _ _ _ => vts_nil) (fun _ _ _ _ _ => ve_intA B_int (va_cons (ve_name 1) va_nil)) (by decide)))))
abbrev s_read_move : Stmt := topS 30
theorem sc_read_move : FnScope ["line", "words", "numbers"] ["line"] (defScope s_read_move) := ⟨rfl, rfl, rfl, by decide +kernel, rfl, by decide +kernel, by decide +kernel⟩
def b_read_move : VS := vSeq (vSet 1 (vSplit (vName 0) (vC (.str " "))))
  (vSeq (vIfS (tOr_ (tB_ (v2 (gInK true) (v2 gIx (vName 1) (vC (.int 0))) (vC (.kdc K_FORMS)))) (tB_ (v2 (gEq true) (v2 (gI fun i j => .int (i - j)) (vCall (g1 gLen) (vCons (vName 1) (fun _ => some []))) (vC (.int 1))) (v2 gIxK (vC (.kdc K_FORMS)) (v2 gIx (vName 1) (vC (.int 0))))))) (vRet (vC .non)) ((fun e => .nx e)))
  (vSeq (vSet 2 (vCallF c_read_numbers (vCons (vSlice (vName 1) (vPart (vC (.int 1))) (fun _ => some none)) (fun _ => some []))))
  (vSeq (vIfS (tB_ (v1 (gIsN false) (vName 2))) (vRet (vC .non)) ((fun e => .nx e)))
  (vRet (v2 gAdd (vTup (vCons (v2 gIx (vName 1) (vC (.int 0))) (fun _ => some []))) (vCall (g1 gTuple) (vCons (vName 2) (fun _ => some []))))))))
def c_read_move : CF := vDef 3 b_read_move
set_option maxHeartbeats 4000000 in
theorem ok_read_move {P : Program} {w : World} {K : PySem.W.Frag} {mg : Str → Option Value} {base : Heap} {Cl : ClsT} {f : Addr} {fd : FuncData} (F : Fun K "read_move" "read_move" s_read_move f fd) (B_len : mg "len" = none) (B_tuple : mg "tuple" = none) (ci : ConIn K w Cl) (H_FORMS : ConH mg Cl "FORMS" K_FORMS) (H_read_numbers : FnH P w K mg base Cl 2 1 "read_numbers" ["words"] c_read_numbers) : FnOk P w K mg base (L2.CX P w) 3 f fd ["line"] (spV K Cl 1 c_read_move) := by
  refine fn_v F sc_read_move rfl (fun cdv A outer s H E hr => ?_)
  have nd := sc_read_move.nd
  have hp : PassesOwn (model P w) (bodyCx P w K mg base ["line", "words", "numbers"] "read_move" s_read_move f cdv A outer s H E).A (bodyCx P w K mg base ["line", "words", "numbers"] "read_move" s_read_move f cdv A outer s H E).env (bodyCx P w K mg base ["line", "words", "numbers"] "read_move" s_read_move f cdv A outer s H E).xe := passes_of rfl
  have hu := hr.units
  have hu5 := room65 hr
  exact (vb_cons (vs_set 1 nd (ve_split (ve_name 0) (ve_str)))
  (vb_cons (vs_if (vt_w (vw_or (vt_notinK ci (ve_ix (ve_name 1) (ve_int)) (ve_con H_FORMS)) (vw_or1 (vt_ne hu (ve_sub (ve_len B_len (va_cons (ve_name 1) va_nil)) (ve_int)) (ve_ixK ci (ve_con H_FORMS) (ve_ix (ve_name 1) (ve_int))))))) (vb_one (vs_ret (ve_non))) (vb_nil))
  (vb_cons (vs_set 2 nd (ve_callH H_read_numbers (hr.mono (by decide)) rfl (va_cons (ve_slice (ve_name 1) (vo_some (ve_int)) vo_none) va_nil) (len_cons len_nil)))
  (vb_cons (vs_if (vt_isN (ve_name 2)) (vb_one (vs_ret (ve_non))) (vb_nil))
  (vb_one (vs_ret (ve_add (ve_tup (va_cons (ve_ix (ve_name 1) (ve_int)) va_nil)) (ve_tuple B_tuple (va_cons (ve_name 2) va_nil)))))))))
abbrev s_read_run : Stmt := topS 29
theorem sc_read_run : FnScope ["text", "run", "index", "line", "move"] ["text"] (defScope s_read_run) := ⟨rfl, rfl, rfl, by decide +kernel, rfl, by decide +kernel, by decide +kernel⟩
def b_read_run : VS := vSeq (vIfS (tB_ (v2 (gEq false) (vName 0) (vC (.str "")))) (vRet (vLst (fun _ => some []))) ((fun e => .nx e)))
  (vSeq (vSet 1 (vLst (fun _ => some [])))
  (vSeq (vFor (iEnumD (vCons (vSplit (vName 0) (vC (.str "\n"))) (fun _ => some []))) (gT 2 (gsCons (gN 2) (gsCons (gN 3) (gsNil)))) (vSeq (vSet 4 (vCallF c_read_move (vCons (vName 3) (fun _ => some []))))
  (vSeq (vIfS (tB_ (v1 (gIsN false) (vName 4))) (vRaise 2 ["line"] (vCons (v2 gAdd (vName 2) (vC (.int 1))) (fun _ => some []))) ((fun e => .nx e)))
  (vApp 1 (vName 4)))))
  (vRetName 1)))
def c_read_run : CF := vDef 5 b_read_run
set_option maxHeartbeats 4000000 in
theorem ok_read_run {P : Program} {w : World} {K : PySem.W.Frag} {mg : Str → Option Value} {base : Heap} {Cl : ClsT} {f : Addr} {fd : FuncData} (F : Fun K "read_run" "read_run" s_read_run f fd) (B_enumerate : mg "enumerate" = none) (E_BadText : ErrI P w K mg base Cl 2 "BadText" ["line"]) (H_read_move : FnH P w K mg base Cl 3 1 "read_move" ["line"] c_read_move) : FnOk P w K mg base (L2.CX P w) 4 f fd ["text"] (spV K Cl 1 c_read_run) := by
  refine fn_v F sc_read_run rfl (fun cdv A outer s H E hr => ?_)
  have tk : Takes (bodyCx P w K mg base ["text", "run", "index", "line", "move"] "read_run" s_read_run f cdv A outer s H E) (wE E) := takes_of rfl rfl rfl rfl
  have nd := sc_read_run.nd
  have hp : PassesOwn (model P w) (bodyCx P w K mg base ["text", "run", "index", "line", "move"] "read_run" s_read_run f cdv A outer s H E).A (bodyCx P w K mg base ["text", "run", "index", "line", "move"] "read_run" s_read_run f cdv A outer s H E).env (bodyCx P w K mg base ["text", "run", "index", "line", "move"] "read_run" s_read_run f cdv A outer s H E).xe := passes_of rfl
  have hu := hr.units
  have hu5 := room65 hr
  exact (vb_cons (vs_if (vt_eq hu (ve_name 0) (ve_str)) (vb_one (vs_ret (ve_lst va_nil))) (vb_nil))
  (vb_cons (vs_set 1 nd (ve_lst va_nil))
  (vb_cons (vs_for hp rfl (vi_enum B_enumerate (va_cons (ve_split (ve_name 0) (ve_str)) va_nil)) (vg_tup rfl (vgs_cons (vg_name 2 nd) (vgs_cons (vg_name 3 nd) (vgs_nil)))) (vb_cons (vs_set 4 nd (ve_callH H_read_move (hr.mono (by decide)) rfl (va_cons (ve_name 3) va_nil) (len_cons len_nil)))
  (vb_cons (vs_if (vt_isN (ve_name 4)) (vb_one (vs_raise rfl tk E_BadText (hr.mono (by decide)) (va_cons (ve_add (ve_name 2) (ve_int)) va_nil))) (vb_nil))
  (vb_one (vs_append 1 (ve_name 4))))))
  (vb_one (vs_retName 1)))))
abbrev s_law_same : Stmt := topS 34
theorem sc_law_same : FnScope ["actual", "due", "k"] ["actual", "due"] (defScope s_law_same) := ⟨rfl, rfl, rfl, by decide +kernel, rfl, by decide +kernel, by decide +kernel⟩
def b_law_same (rec : CF) : VS := vSeq (vIfS (tB_ (v1 (gIsN false) (vName 1))) (vRet (v1 (gIsN false) (vName 0))) ((fun e => .nx e)))
  (vSeq (vIfS (tB_ (v1 (gIsB true) (vName 1))) (vRet (v1 (gIsB true) (vName 0))) ((fun e => .nx e)))
  (vSeq (vIfS (tB_ (v1 (gIsB false) (vName 1))) (vRet (v1 (gIsB false) (vName 0))) ((fun e => .nx e)))
  (vSeq (vIfS (tV (v1 (gIsi .int) (vName 1))) (vRet (vAnd (v1 (gIsi .int) (vName 0)) (vAnd (vNot (v1 (gIsi .bool) (vName 0))) (v2 (gEq false) (vName 0) (vName 1))))) ((fun e => .nx e)))
  (vSeq (vIfS (tV (v1 (gIsi .str) (vName 1))) (vRet (vAnd (v1 (gIsi .str) (vName 0)) (v2 (gEq false) (vName 0) (vName 1)))) ((fun e => .nx e)))
  (vSeq (vIfS (tV (v1 (gIsi .tuple) (vName 1))) (vIfS (tOr_ (tNot_ (tV (v1 (gIsi .tuple) (vName 0)))) (tB_ (v2 (gEq true) (vCall (g1 gLen) (vCons (vName 0) (fun _ => some []))) (vCall (g1 gLen) (vCons (vName 1) (fun _ => some [])))))) (vRet (vC (.bl false))) ((fun e => .nx e))) (vIfS (tOr_ (tNot_ (tV (v1 (gIsi .list) (vName 0)))) (tB_ (v2 (gEq true) (vCall (g1 gLen) (vCons (vName 0) (fun _ => some []))) (vCall (g1 gLen) (vCons (vName 1) (fun _ => some [])))))) (vRet (vC (.bl false))) ((fun e => .nx e))))
  (vSeq (vFor (iRange1 (vCons (vCall (g1 gLen) (vCons (vName 1) (fun _ => some []))) (fun _ => some []))) (gN 2) (vIfS (tNot_ (tV (vCallF rec (vCons (v2 gIx (vName 0) (vName 2)) (vCons (v2 gIx (vName 1) (vName 2)) (fun _ => some [])))))) (vRet (vC (.bl false))) ((fun e => .nx e))))
  (vRet (vC (.bl true)))))))))
def c_law_same : Nat → CF
  | 0 => fun _ => .no
  | n + 1 => vDef 3 (b_law_same (c_law_same n))
set_option maxHeartbeats 4000000 in
theorem st_law_same {P : Program} {w : World} {K : PySem.W.Frag} {mg : Str → Option Value} {base : Heap} {Cl : ClsT} {f : Addr} {fd : FuncData} {k : Nat} {rec : CF} (F : Fun K "_law_same" "_law_same" s_law_same f fd) (B_bool : mg "bool" = none) (B_int : mg "int" = none) (B_isinstance : mg "isinstance" = none) (B_len : mg "len" = none) (B_list : mg "list" = none) (B_range : mg "range" = none) (B_str : mg "str" = none) (B_tuple : mg "tuple" = none) (H_rec : FnH P w K mg base Cl k 2 "_law_same" ["actual", "due"] rec) : FnOk P w K mg base (L2.CX P w) (k + 1) f fd ["actual", "due"] (spV K Cl 2 (vDef 3 (b_law_same rec))) := by
  refine fn_v F sc_law_same rfl (fun cdv A outer s H E hr => ?_)
  have nd := sc_law_same.nd
  have hp : PassesOwn (model P w) (bodyCx P w K mg base ["actual", "due", "k"] "_law_same" s_law_same f cdv A outer s H E).A (bodyCx P w K mg base ["actual", "due", "k"] "_law_same" s_law_same f cdv A outer s H E).env (bodyCx P w K mg base ["actual", "due", "k"] "_law_same" s_law_same f cdv A outer s H E).xe := passes_of rfl
  have hu := hr.units
  have hu5 := room65 hr
  exact (vb_cons (vs_if (vt_isN (ve_name 1)) (vb_one (vs_ret (ve_isN (ve_name 0)))) (vb_nil))
  (vb_cons (vs_if (vt_isB (ve_name 1)) (vb_one (vs_ret (ve_isB (ve_name 0)))) (vb_nil))
  (vb_cons (vs_if (vt_isB (ve_name 1)) (vb_one (vs_ret (ve_isB (ve_name 0)))) (vb_nil))
  (vb_cons (vs_if (vt_val (ve_isi .int B_isinstance B_int (ve_name 1))) (vb_one (vs_ret (ve_and (ve_isi .int B_isinstance B_int (ve_name 0)) (ve_and (ve_not (ve_isi .bool B_isinstance B_bool (ve_name 0))) (ve_one (ve_eq hu (ve_name 0) (ve_name 1))))))) (vb_nil))
  (vb_cons (vs_if (vt_val (ve_isi .str B_isinstance B_str (ve_name 1))) (vb_one (vs_ret (ve_and (ve_isi .str B_isinstance B_str (ve_name 0)) (ve_one (ve_eq hu (ve_name 0) (ve_name 1)))))) (vb_nil))
  (vb_cons (vs_if (vt_val (ve_isi .tuple B_isinstance B_tuple (ve_name 1))) (vb_one (vs_if (vt_w (vw_or (vt_not (vt_val (ve_isi .tuple B_isinstance B_tuple (ve_name 0)))) (vw_or1 (vt_ne hu (ve_len B_len (va_cons (ve_name 0) va_nil)) (ve_len B_len (va_cons (ve_name 1) va_nil)))))) (vb_one (vs_ret (ve_bl))) (vb_nil))) (vb_one (vs_if (vt_w (vw_or (vt_not (vt_val (ve_isi .list B_isinstance B_list (ve_name 0)))) (vw_or1 (vt_ne hu (ve_len B_len (va_cons (ve_name 0) va_nil)) (ve_len B_len (va_cons (ve_name 1) va_nil)))))) (vb_one (vs_ret (ve_bl))) (vb_nil))))
  (vb_cons (vs_for hp rfl (vi_range1 B_range (va_cons (ve_len B_len (va_cons (ve_name 1) va_nil)) va_nil)) (vg_name 2 nd) (vb_one (vs_if (vt_not (vt_val (ve_callH H_rec hr rfl (va_cons (ve_ix (ve_name 0) (ve_name 2)) (va_cons (ve_ix (ve_name 1) (ve_name 2)) va_nil)) (len_cons (len_cons len_nil))))) (vb_one (vs_ret (ve_bl))) (vb_nil))))
  (vb_one (vs_ret (ve_bl))))))))))
theorem ok_law_same {P : Program} {w : World} {K : PySem.W.Frag} {mg : Str → Option Value} {base : Heap} {Cl : ClsT} {f : Addr} {fd : FuncData} (F : Fun K "_law_same" "_law_same" s_law_same f fd) (B_bool : mg "bool" = none) (B_int : mg "int" = none) (B_isinstance : mg "isinstance" = none) (B_len : mg "len" = none) (B_list : mg "list" = none) (B_range : mg "range" = none) (B_str : mg "str" = none) (B_tuple : mg "tuple" = none) (am : mg "_law_same" = some (.ref f)) (bb : Binds K fd ["actual", "due"] []) : ∀ k, FnOk P w K mg base (L2.CX P w) k f fd ["actual", "due"] (spV K Cl 2 (c_law_same k))
  | 0 => fn_zero rfl fun _ => rfl
  | k + 1 => st_law_same F B_bool B_int B_isinstance B_len B_list B_range B_str B_tuple (fnH_mk am F.kp bb (ok_law_same F B_bool B_int B_isinstance B_len B_list B_range B_str B_tuple am bb k))
abbrev s_law_bad_words : Stmt := topS 38
theorem sc_law_bad_words : FnScope ["words", "pool", "start", "way", "at", "others", "word"] ["words", "pool", "start"] (defScope s_law_bad_words) := ⟨rfl, rfl, rfl, by decide +kernel, rfl, by decide +kernel, by decide +kernel⟩
def b_law_bad_words : VS := vSeq (vSet 3 (v2 (gIC (fun _ j => decide (0 < j)) fun i j => .int (i % j)) (vCall (g1 gInt) (vCons (v2 gIx (vName 1) (vName 2)) (fun _ => some []))) (vC (.int 8))))
  (vSeq (vSet 4 (v2 (gIC (fun _ j => decide (0 < j)) fun i j => .int (i % j)) (vCall (g1 gInt) (vCons (v2 gIx (vName 1) (v2 gAdd (vName 2) (vC (.int 1)))) (fun _ => some []))) (v2 gAdd (vCall (g1 gLen) (vCons (vName 0) (fun _ => some []))) (vC (.int 1)))))
  (vSeq (vIfS (tB_ (v2 (gEq false) (vName 3) (vC (.int 0)))) (vRet (v2 gAdd (v2 gAdd (vSlice (vName 0) (fun _ => some none) (vPart (vName 4))) (vLst (vCons (vC (.str "")) (fun _ => some [])))) (vSlice (vName 0) (vPart (vName 4)) (fun _ => some none)))) ((fun e => .nx e)))
  (vSeq (vIfS (tB_ (v2 (gEq false) (vName 3) (vC (.int 1)))) (vRet (v2 gAdd (v2 gAdd (vSlice (vName 0) (fun _ => some none) (vPart (vName 4))) (vLst (vCons (vCall (g1 gStrC) (vCons (v2 (gIC (fun _ j => decide (0 < j)) fun i j => .int (i % j)) (vCall (g1 gInt) (vCons (v2 gIx (vName 1) (v2 gAdd (vName 2) (vC (.int 2)))) (fun _ => some []))) (vC (.int 100))) (fun _ => some []))) (fun _ => some [])))) (vSlice (vName 0) (vPart (vName 4)) (fun _ => some none)))) ((fun e => .nx e)))
  (vSeq (vIfS (tB_ (v2 (gEq false) (vName 3) (vC (.int 2)))) (vSeq (vSet 4 (v2 (gIC (fun _ j => decide (0 < j)) fun i j => .int (i % j)) (vCall (g1 gInt) (vCons (vName 4) (fun _ => some []))) (vCall (g1 gLen) (vCons (vName 0) (fun _ => some [])))))
  (vRet (v2 gAdd (vSlice (vName 0) (fun _ => some none) (vPart (vName 4))) (vSlice (vName 0) (vPart (v2 gAdd (vName 4) (vC (.int 1)))) (fun _ => some none))))) ((fun e => .nx e)))
  (vSeq (vIfS (tB_ (v2 (gEq false) (vName 3) (vC (.int 3)))) (vSeq (vSet 5 (vLst (vCons (vC (.str "Enter")) (vCons (vC (.str "PASS")) (vCons (vC (.str "swaps")) (vCons (vC (.str "pas")) (vCons (vC (.str "move")) (vCons (vC (.str "down")) (vCons (vC (.str "settle")) (vCons (vC (.str "")) (vCons (vC (.str "enter_")) (vCons (vC (.str "0")) (fun _ => some [])))))))))))))
  (vSeq (vSet 5 (v2 gAdd (vName 5) (vComp (iSeq (vLst (vCons (vC (.str "enter")) (vCons (vC (.str "pass")) (vCons (vC (.str "swap")) (fun _ => some [])))))) [6] (gN 6) (tB_ (v2 (gEq true) (vName 6) (v2 gIx (vName 0) (vC (.int 0))))) (vName 6))))
  (vRet (v2 gAdd (vLst (vCons (v2 gIx (vName 5) (v2 (gIC (fun _ j => decide (0 < j)) fun i j => .int (i % j)) (vCall (g1 gInt) (vCons (v2 gIx (vName 1) (v2 gAdd (vName 2) (vC (.int 2)))) (fun _ => some []))) (vCall (g1 gLen) (vCons (vName 5) (fun _ => some []))))) (fun _ => some []))) (vSlice (vName 0) (vPart (vC (.int 1))) (fun _ => some none)))))) ((fun e => .nx e)))
  (vSeq (vSet 4 (v2 gAdd (vC (.int 1)) (v2 (gIC (fun _ j => decide (0 < j)) fun i j => .int (i % j)) (vCall (g1 gInt) (vCons (vName 4) (fun _ => some []))) (v2 (gI fun i j => .int (i - j)) (vCall (g1 gLen) (vCons (vName 0) (fun _ => some []))) (vC (.int 1))))))
  (vSeq (vSet 6 (v2 gIx (vName 0) (vName 4)))
  (vSeq (vSet 5 (vLst (vCons (v2 gAdd (vC (.str "0")) (v2 gIxA (vName 6) (vNeg (vC (.int 1))))) (vCons (v2 gAdd (vC (.str "0")) (v2 gIxA (vName 6) (vNeg (vC (.int 1))))) (vCons (v2 gAdd (vC (.str "0")) (v2 gIxA (vName 6) (vNeg (vC (.int 1))))) (vCons (v2 gAdd (vC (.str "-")) (vName 6)) (vCons (v2 gAdd (vC (.str "+")) (vName 6)) (vCons (v2 gAdd (vName 6) (vC (.str "00"))) (vCons (v2 gAdd (vName 6) (vC (.str "."))) (fun _ => some []))))))))))
  (vSeq (vSet 5 (v2 gAdd (vName 5) (vLst (vCons (v2 gAdd (vName 6) (vC (.str "_0"))) (vCons (vC (.str "")) (vCons (vC (.str "x")) (vCons (vC (.str "1e1")) (vCons (vC (.str "0x1")) (fun _ => some [])))))))))
  (vRet (v2 gAdd (v2 gAdd (vSlice (vName 0) (fun _ => some none) (vPart (vName 4))) (vLst (vCons (v2 gIx (vName 5) (v2 (gIC (fun _ j => decide (0 < j)) fun i j => .int (i % j)) (vCall (g1 gInt) (vCons (v2 gIx (vName 1) (v2 gAdd (vName 2) (vC (.int 2)))) (fun _ => some []))) (vC (.int 12)))) (fun _ => some [])))) (vSlice (vName 0) (vPart (v2 gAdd (vName 4) (vC (.int 1)))) (fun _ => some none)))))))))))))
def c_law_bad_words : CF := vDef 7 b_law_bad_words
set_option maxHeartbeats 4000000 in
theorem ok_law_bad_words {P : Program} {w : World} {K : PySem.W.Frag} {mg : Str → Option Value} {base : Heap} {Cl : ClsT} {f : Addr} {fd : FuncData} (F : Fun K "_law_bad_words" "_law_bad_words" s_law_bad_words f fd) (B_int : mg "int" = none) (B_len : mg "len" = none) (B_str : mg "str" = none) : FnOk P w K mg base (L2.CX P w) 1 f fd ["words", "pool", "start"] (spV K Cl 3 c_law_bad_words) := by
  refine fn_v F sc_law_bad_words rfl (fun cdv A outer s H E hr => ?_)
  have nd := sc_law_bad_words.nd
  have hp : PassesOwn (model P w) (bodyCx P w K mg base ["words", "pool", "start", "way", "at", "others", "word"] "_law_bad_words" s_law_bad_words f cdv A outer s H E).A (bodyCx P w K mg base ["words", "pool", "start", "way", "at", "others", "word"] "_law_bad_words" s_law_bad_words f cdv A outer s H E).env (bodyCx P w K mg base ["words", "pool", "start", "way", "at", "others", "word"] "_law_bad_words" s_law_bad_words f cdv A outer s H E).xe := passes_of rfl
  have hu := hr.units
  have hu5 := room65 hr
  exact (vb_cons (vs_set 3 nd (ve_mod (ve_intc B_int (va_cons (ve_ix (ve_name 1) (ve_name 2)) va_nil)) (ve_int)))
  (vb_cons (vs_set 4 nd (ve_mod (ve_intc B_int (va_cons (ve_ix (ve_name 1) (ve_add (ve_name 2) (ve_int))) va_nil)) (ve_add (ve_len B_len (va_cons (ve_name 0) va_nil)) (ve_int))))
  (vb_cons (vs_if (vt_eq hu (ve_name 3) (ve_int)) (vb_one (vs_ret (ve_add (ve_add (ve_slice (ve_name 0) vo_none (vo_some (ve_name 4))) (ve_lst (va_cons (ve_str) va_nil))) (ve_slice (ve_name 0) (vo_some (ve_name 4)) vo_none)))) (vb_nil))
  (vb_cons (vs_if (vt_eq hu (ve_name 3) (ve_int)) (vb_one (vs_ret (ve_add (ve_add (ve_slice (ve_name 0) vo_none (vo_some (ve_name 4))) (ve_lst (va_cons (ve_strc B_str (va_cons (ve_mod (ve_intc B_int (va_cons (ve_ix (ve_name 1) (ve_add (ve_name 2) (ve_int))) va_nil)) (ve_int)) va_nil)) va_nil))) (ve_slice (ve_name 0) (vo_some (ve_name 4)) vo_none)))) (vb_nil))
  (vb_cons (vs_if (vt_eq hu (ve_name 3) (ve_int)) (vb_cons (vs_set 4 nd (ve_mod (ve_intc B_int (va_cons (ve_name 4) va_nil)) (ve_len B_len (va_cons (ve_name 0) va_nil))))
  (vb_one (vs_ret (ve_add (ve_slice (ve_name 0) vo_none (vo_some (ve_name 4))) (ve_slice (ve_name 0) (vo_some (ve_add (ve_name 4) (ve_int))) vo_none))))) (vb_nil))
  (vb_cons (vs_if (vt_eq hu (ve_name 3) (ve_int)) (vb_cons (vs_set 5 nd (ve_lst (va_cons (ve_str) (va_cons (ve_str) (va_cons (ve_str) (va_cons (ve_str) (va_cons (ve_str) (va_cons (ve_str) (va_cons (ve_str) (va_cons (ve_str) (va_cons (ve_str) (va_cons (ve_str) va_nil))))))))))))
  (vb_cons (vs_set 5 nd (ve_add (ve_name 5) (ve_comp (own := [("word", 6)]) rfl nd (vi_seq (ve_lst (va_cons (ve_str) (va_cons (ve_str) (va_cons (ve_str) va_nil))))) (blkOk_by (N := ["words", "pool", "start", "way", "at", "others", "word"]) (sc := defScope s_law_bad_words) (by decide +kernel)) (fun _ _ _ _ _ => vg_name 6 nd) (fun _ _ _ _ _ => vts_one (vt_ne hu (ve_name 6) (ve_ix (ve_name 0) (ve_int)))) (fun _ _ _ _ _ => ve_name 6) (by decide))))
  (vb_one (vs_ret (ve_add (ve_lst (va_cons (ve_ix (ve_name 5) (ve_mod (ve_intc B_int (va_cons (ve_ix (ve_name 1) (ve_add (ve_name 2) (ve_int))) va_nil)) (ve_len B_len (va_cons (ve_name 5) va_nil)))) va_nil)) (ve_slice (ve_name 0) (vo_some (ve_int)) vo_none)))))) (vb_nil))
  (vb_cons (vs_set 4 nd (ve_add (ve_int) (ve_mod (ve_intc B_int (va_cons (ve_name 4) va_nil)) (ve_sub (ve_len B_len (va_cons (ve_name 0) va_nil)) (ve_int)))))
  (vb_cons (vs_set 6 nd (ve_ix (ve_name 0) (ve_name 4)))
  (vb_cons (vs_set 5 nd (ve_lst (va_cons (ve_add (ve_str) (ve_ixA (ve_name 6) (ve_neg (ve_int)))) (va_cons (ve_add (ve_str) (ve_ixA (ve_name 6) (ve_neg (ve_int)))) (va_cons (ve_add (ve_str) (ve_ixA (ve_name 6) (ve_neg (ve_int)))) (va_cons (ve_add (ve_str) (ve_name 6)) (va_cons (ve_add (ve_str) (ve_name 6)) (va_cons (ve_add (ve_name 6) (ve_str)) (va_cons (ve_add (ve_name 6) (ve_str)) va_nil)))))))))
  (vb_cons (vs_set 5 nd (ve_add (ve_name 5) (ve_lst (va_cons (ve_add (ve_name 6) (ve_str)) (va_cons (ve_str) (va_cons (ve_str) (va_cons (ve_str) (va_cons (ve_str) va_nil))))))))
  (vb_one (vs_ret (ve_add (ve_add (ve_slice (ve_name 0) vo_none (vo_some (ve_name 4))) (ve_lst (va_cons (ve_ix (ve_name 5) (ve_mod (ve_intc B_int (va_cons (ve_ix (ve_name 1) (ve_add (ve_name 2) (ve_int))) va_nil)) (ve_int))) va_nil))) (ve_slice (ve_name 0) (vo_some (ve_add (ve_name 4) (ve_int))) vo_none))))))))))))))
abbrev s_law_changed : Stmt := topS 39
theorem sc_law_changed : FnScope ["rows", "pool", "start", "way", "at", "fine", "k"] ["rows", "pool", "start"] (defScope s_law_changed) := ⟨rfl, rfl, rfl, by decide +kernel, rfl, by decide +kernel, by decide +kernel⟩
def b_law_changed : VS := vSeq (vSet 3 (v2 (gIC (fun _ j => decide (0 < j)) fun i j => .int (i % j)) (vCall (g1 gInt) (vCons (v2 gIx (vName 1) (vName 2)) (fun _ => some []))) (vC (.int 6))))
  (vSeq (vSet 4 (v2 (gIC (fun _ j => decide (0 < j)) fun i j => .int (i % j)) (vCall (g1 gInt) (vCons (v2 gIx (vName 1) (v2 gAdd (vName 2) (vC (.int 1)))) (fun _ => some []))) (v2 gAdd (vCall (g1 gLen) (vCons (vName 0) (fun _ => some []))) (vC (.int 1)))))
  (vSeq (vSet 5 (vComp (iRange1 (vCons (vCall (g1 gLen) (vCons (vName 0) (fun _ => some []))) (fun _ => some []))) [6] (gN 6) (tV (v2 gIx (v2 gIx (vName 0) (vName 6)) (vC (.int 1)))) (vName 6)))
  (vSeq (vIfS (tB_ (v2 (gEq false) (vName 3) (vC (.int 0)))) (vRet (v2 gAdd (v2 gAdd (vSlice (vName 0) (fun _ => some none) (vPart (vName 4))) (vLst (vCons (vTup (vCons (vLst (vCons (vC (.str "")) (fun _ => some []))) (vCons (vC (.bl false)) (fun _ => some [])))) (fun _ => some [])))) (vSlice (vName 0) (vPart (vName 4)) (fun _ => some none)))) ((fun e => .nx e)))
  (vSeq (vIfS (tB_ (v2 (gEq false) (vName 3) (vC (.int 1)))) (vRet (v2 gAdd (vName 0) (vLst (vCons (vTup (vCons (vLst (vCons (vC (.str "")) (fun _ => some []))) (vCons (vC (.bl false)) (fun _ => some [])))) (fun _ => some []))))) ((fun e => .nx e)))
  (vSeq (vIfS (tOr_ (tB_ (v2 (gEq false) (vName 3) (vC (.int 2)))) (tB_ (v2 (gEq false) (vName 5) (vLst (fun _ => some []))))) (vRet (v2 gAdd (v2 gAdd (vSlice (vName 0) (fun _ => some none) (vPart (vName 4))) (vLst (vCons (vTup (vCons (vLst (vCons (vC (.str "")) (vCons (vC (.str "")) (fun _ => some [])))) (vCons (vC (.bl false)) (fun _ => some [])))) (fun _ => some [])))) (vSlice (vName 0) (vPart (vName 4)) (fun _ => some none)))) ((fun e => .nx e)))
  (vSeq (vSet 4 (v2 gIx (vName 5) (v2 (gIC (fun _ j => decide (0 < j)) fun i j => .int (i % j)) (vCall (g1 gInt) (vCons (v2 gIx (vName 1) (v2 gAdd (vName 2) (vC (.int 1)))) (fun _ => some []))) (vCall (g1 gLen) (vCons (vName 5) (fun _ => some []))))))
  (vRet (v2 gAdd (v2 gAdd (vSlice (vName 0) (fun _ => some none) (vPart (vName 4))) (vLst (vCons (vTup (vCons (vCallF c_law_bad_words (vCons (v2 gIx (v2 gIx (vName 0) (vName 4)) (vC (.int 0))) (vCons (vName 1) (vCons (v2 gAdd (vName 2) (vC (.int 2))) (fun _ => some []))))) (vCons (vC (.bl false)) (fun _ => some [])))) (fun _ => some [])))) (vSlice (vName 0) (vPart (v2 gAdd (vName 4) (vC (.int 1)))) (fun _ => some none))))))))))
def c_law_changed : CF := vDef 7 b_law_changed
set_option maxHeartbeats 4000000 in
theorem ok_law_changed {P : Program} {w : World} {K : PySem.W.Frag} {mg : Str → Option Value} {base : Heap} {Cl : ClsT} {f : Addr} {fd : FuncData} (F : Fun K "_law_changed" "_law_changed" s_law_changed f fd) (B_int : mg "int" = none) (B_len : mg "len" = none) (B_range : mg "range" = none) (H_law_bad_words : FnH P w K mg base Cl 1 3 "_law_bad_words" ["words", "pool", "start"] c_law_bad_words) : FnOk P w K mg base (L2.CX P w) 2 f fd ["rows", "pool", "start"] (spV K Cl 3 c_law_changed) := by
  refine fn_v F sc_law_changed rfl (fun cdv A outer s H E hr => ?_)
  have nd := sc_law_changed.nd
  have hp : PassesOwn (model P w) (bodyCx P w K mg base ["rows", "pool", "start", "way", "at", "fine", "k"] "_law_changed" s_law_changed f cdv A outer s H E).A (bodyCx P w K mg base ["rows", "pool", "start", "way", "at", "fine", "k"] "_law_changed" s_law_changed f cdv A outer s H E).env (bodyCx P w K mg base ["rows", "pool", "start", "way", "at", "fine", "k"] "_law_changed" s_law_changed f cdv A outer s H E).xe := passes_of rfl
  have hu := hr.units
  have hu5 := room65 hr
  exact (vb_cons (vs_set 3 nd (ve_mod (ve_intc B_int (va_cons (ve_ix (ve_name 1) (ve_name 2)) va_nil)) (ve_int)))
  (vb_cons (vs_set 4 nd (ve_mod (ve_intc B_int (va_cons (ve_ix (ve_name 1) (ve_add (ve_name 2) (ve_int))) va_nil)) (ve_add (ve_len B_len (va_cons (ve_name 0) va_nil)) (ve_int))))
  (vb_cons (vs_setLc 5 (own := [("k", 6)]) rfl nd (vi_range1 B_range (va_cons (ve_len B_len (va_cons (ve_name 0) va_nil)) va_nil)) (blkOk_by (N := ["rows", "pool", "start", "way", "at", "fine", "k"]) (sc := defScope s_law_changed) (by decide +kernel)) (fun _ _ _ _ _ => vg_name 6 nd) (fun _ _ _ _ _ => vts_one (vt_val (ve_ix (ve_ix (ve_name 0) (ve_name 6)) (ve_int)))) (fun _ _ _ _ _ => ve_name 6) (by decide))
  (vb_cons (vs_if (vt_eq hu (ve_name 3) (ve_int)) (vb_one (vs_ret (ve_add (ve_add (ve_slice (ve_name 0) vo_none (vo_some (ve_name 4))) (ve_lst (va_cons (ve_tup (va_cons (ve_lst (va_cons (ve_str) va_nil)) (va_cons (ve_bl) va_nil))) va_nil))) (ve_slice (ve_name 0) (vo_some (ve_name 4)) vo_none)))) (vb_nil))
  (vb_cons (vs_if (vt_eq hu (ve_name 3) (ve_int)) (vb_one (vs_ret (ve_add (ve_name 0) (ve_lst (va_cons (ve_tup (va_cons (ve_lst (va_cons (ve_str) va_nil)) (va_cons (ve_bl) va_nil))) va_nil))))) (vb_nil))
  (vb_cons (vs_if (vt_w (vw_or (vt_eq hu (ve_name 3) (ve_int)) (vw_or1 (vt_eq hu (ve_name 5) (ve_lst va_nil))))) (vb_one (vs_ret (ve_add (ve_add (ve_slice (ve_name 0) vo_none (vo_some (ve_name 4))) (ve_lst (va_cons (ve_tup (va_cons (ve_lst (va_cons (ve_str) (va_cons (ve_str) va_nil))) (va_cons (ve_bl) va_nil))) va_nil))) (ve_slice (ve_name 0) (vo_some (ve_name 4)) vo_none)))) (vb_nil))
  (vb_cons (vs_set 4 nd (ve_ix (ve_name 5) (ve_mod (ve_intc B_int (va_cons (ve_ix (ve_name 1) (ve_add (ve_name 2) (ve_int))) va_nil)) (ve_len B_len (va_cons (ve_name 5) va_nil)))))
  (vb_one (vs_ret (ve_add (ve_add (ve_slice (ve_name 0) vo_none (vo_some (ve_name 4))) (ve_lst (va_cons (ve_tup (va_cons (ve_callH H_law_bad_words (hr.mono (by decide)) rfl (va_cons (ve_ix (ve_ix (ve_name 0) (ve_name 4)) (ve_int)) (va_cons (ve_name 1) (va_cons (ve_add (ve_name 2) (ve_int)) va_nil))) (len_cons (len_cons (len_cons len_nil)))) (va_cons (ve_bl) va_nil))) va_nil))) (ve_slice (ve_name 0) (vo_some (ve_add (ve_name 4) (ve_int))) vo_none)))))))))))
abbrev s_law_read : Stmt := topS 40
theorem sc_law_read : FnScope ["text", "told", "e"] ["text"] (defScope s_law_read) := ⟨rfl, rfl, rfl, by decide +kernel, rfl, by decide +kernel, by decide +kernel⟩
def b_law_read : VS := vSeq (vSet 1 (vC .non))
  (vSeq (vTry (xSet 1 (xCall c_read_run (vCons (vName 0) (fun _ => some [])))) ((row_BadText, some 2, (vSet 1 (vTup (vCons (vC (.str "refused")) (vCons (vXf [2] "line" (vName 2)) (fun _ => some [])))))) :: []))
  (vRetName 1))
def c_law_read : CF := vDef 3 b_law_read
set_option maxHeartbeats 4000000 in
theorem ok_law_read {P : Program} {w : World} {K : PySem.W.Frag} {mg : Str → Option Value} {base : Heap} {Cl : ClsT} {f : Addr} {fd : FuncData} (F : Fun K "_law_read" "_law_read" s_law_read f fd) {D_BadText : Addr} (G_BadText : mg "BadText" = some (.ref D_BadText)) (M_BadText : ExmRow K Cl (.ref D_BadText) row_BadText) (nh : ∀ a, Cl.han a = none) (X_line : ∀ c ∈ [(2 : Nat)], ∃ C, Cl c = some C ∧ ExcC K C ∧ PySem.W.findIn K (.ref C) "line" = some none) (H_read_run : FnH P w K mg base Cl 4 1 "read_run" ["text"] c_read_run) : FnOk P w K mg base (L2.CX P w) 5 f fd ["text"] (spV K Cl 1 c_law_read) := by
  refine fn_v F sc_law_read rfl (fun cdv A outer s H E hr => ?_)
  have tk : Takes (bodyCx P w K mg base ["text", "told", "e"] "_law_read" s_law_read f cdv A outer s H E) (wE E) := takes_of rfl rfl rfl rfl
  have hi : HanIn (bodyCx P w K mg base ["text", "told", "e"] "_law_read" s_law_read f cdv A outer s H E) Cl := hanIn0 nh
  have nd := sc_law_read.nd
  have hp : PassesOwn (model P w) (bodyCx P w K mg base ["text", "told", "e"] "_law_read" s_law_read f cdv A outer s H E).A (bodyCx P w K mg base ["text", "told", "e"] "_law_read" s_law_read f cdv A outer s H E).env (bodyCx P w K mg base ["text", "told", "e"] "_law_read" s_law_read f cdv A outer s H E).xe := passes_of rfl
  have hu := hr.units
  have hu5 := room65 hr
  exact (vb_cons (vs_set 1 nd (ve_non))
  (vb_cons (vs_try nh nd tk (fun _ _ _ tk hp => vb_one (xs_set 1 nd (vx_callH tk H_read_run (hr.mono (by decide)) rfl (va_cons (ve_name 0) va_nil) (len_cons len_nil)))) (.named 2 G_BadText M_BadText (fun _ _ _ _ hi => vb_one (vs_set 1 nd (ve_tup (va_cons (ve_str) (va_cons (ve_xfH hi X_line (ve_name 2)) va_nil))))) .nil))
  (vb_one (vs_retName 1))))
abbrev s_law_words : Stmt := topS 36
theorem sc_law_words : FnScope ["move", "number"] ["move"] (defScope s_law_words) := ⟨rfl, rfl, rfl, by decide +kernel, rfl, by decide +kernel, by decide +kernel⟩
def b_law_words : VS := vRet (v2 gAdd (vLst (vCons (v2 gIx (vName 0) (vC (.int 0))) (fun _ => some []))) (vComp (iSeq (vSlice (vName 0) (vPart (vC (.int 1))) (fun _ => some none))) [1] (gN 1) (fun _ => some true) (vCall (g1 gStrC) (vCons (vName 1) (fun _ => some [])))))
def c_law_words : CF := vDef 2 b_law_words
set_option maxHeartbeats 4000000 in
theorem ok_law_words {P : Program} {w : World} {K : PySem.W.Frag} {mg : Str → Option Value} {base : Heap} {Cl : ClsT} {f : Addr} {fd : FuncData} (F : Fun K "_law_words" "_law_words" s_law_words f fd) (B_str : mg "str" = none) : FnOk P w K mg base (L2.CX P w) 1 f fd ["move"] (spV K Cl 1 c_law_words) := by
  refine fn_v F sc_law_words rfl (fun cdv A outer s H E hr => ?_)
  have nd := sc_law_words.nd
  have hp : PassesOwn (model P w) (bodyCx P w K mg base ["move", "number"] "_law_words" s_law_words f cdv A outer s H E).A (bodyCx P w K mg base ["move", "number"] "_law_words" s_law_words f cdv A outer s H E).env (bodyCx P w K mg base ["move", "number"] "_law_words" s_law_words f cdv A outer s H E).xe := passes_of rfl
  have hu := hr.units
  have hu5 := room65 hr
  exact (vb_one (vs_ret (ve_add (ve_lst (va_cons (ve_ix (ve_name 0) (ve_int)) va_nil)) (ve_comp (own := [("number", 1)]) rfl nd (vi_seq (ve_slice (ve_name 0) (vo_some (ve_int)) vo_none)) (blkOk_by (N := ["move", "number"]) (sc := defScope s_law_words) (by decide +kernel)) (fun _ _ _ _ _ => vg_name 1 nd) (fun _ _ _ _ _ => vts_nil) (fun _ _ _ _ _ => ve_strc B_str (va_cons (ve_name 1) va_nil)) (by decide)))))
abbrev s_law_pure : Stmt := topS 41
theorem sc_law_pure : FnScope ["text", "fine", "e"] ["text"] (defScope s_law_pure) := ⟨rfl, rfl, rfl, by decide +kernel, rfl, by decide +kernel, by decide +kernel⟩
def b_law_pure : VS := vSeq (vSet 1 (vC (.bl false)))
  (vSeq (vTry (xDrop (xCall c_read_run (vCons (vName 0) (fun _ => some [])))) ((row_FullhandsError, some 2, (vSet 1 (vAnd (v1 (gIsE row_ValueError) (vName 2)) (vAnd (v1 (gIsE row_BadText) (vName 2)) (vNot (v1 (gIsE rowT_Attled_Bading_Badine_Badads_BadLot_Badram_Bading_Badble_Badtor_Canove_Impble_InUUse_NoSuch_Notore_Notcal_Notedo_Notndo_Tooeat_Wround) (vName 2))))))) :: []))
  (vRetName 1))
def c_law_pure : CF := vDef 3 b_law_pure
set_option maxHeartbeats 4000000 in
theorem ok_law_pure {P : Program} {w : World} {K : PySem.W.Frag} {mg : Str → Option Value} {base : Heap} {Cl : ClsT} {f : Addr} {fd : FuncData} (F : Fun K "_law_pure" "_law_pure" s_law_pure f fd) (B_ValueError : mg "ValueError" = none) (B_isinstance : mg "isinstance" = none) {D_FullhandsError : Addr} (G_FullhandsError : mg "FullhandsError" = some (.ref D_FullhandsError)) {D_BadText : Addr} (G_BadText : mg "BadText" = some (.ref D_BadText)) {D_AttemptFailed : Addr} (G_AttemptFailed : mg "AttemptFailed" = some (.ref D_AttemptFailed)) {D_BadDealing : Addr} (G_BadDealing : mg "BadDealing" = some (.ref D_BadDealing)) {D_BadLine : Addr} (G_BadLine : mg "BadLine" = some (.ref D_BadLine)) {D_BadLoads : Addr} (G_BadLoads : mg "BadLoads" = some (.ref D_BadLoads)) {D_BadLot : Addr} (G_BadLot : mg "BadLot" = some (.ref D_BadLot)) {D_BadProgram : Addr} (G_BadProgram : mg "BadProgram" = some (.ref D_BadProgram)) {D_BadStanding : Addr} (G_BadStanding : mg "BadStanding" = some (.ref D_BadStanding)) {D_BadTable : Addr} (G_BadTable : mg "BadTable" = some (.ref D_BadTable)) {D_BadVector : Addr} (G_BadVector : mg "BadVector" = some (.ref D_BadVector)) {D_CannotMove : Addr} (G_CannotMove : mg "CannotMove" = some (.ref D_CannotMove)) {D_Impossible : Addr} (G_Impossible : mg "Impossible" = some (.ref D_Impossible)) {D_InUse : Addr} (G_InUse : mg "InUse" = some (.ref D_InUse)) {D_NoSuch : Addr} (G_NoSuch : mg "NoSuch" = some (.ref D_NoSuch)) {D_NotCore : Addr} (G_NotCore : mg "NotCore" = some (.ref D_NotCore)) {D_NotLocal : Addr} (G_NotLocal : mg "NotLocal" = some (.ref D_NotLocal)) {D_NothingToRedo : Addr} (G_NothingToRedo : mg "NothingToRedo" = some (.ref D_NothingToRedo)) {D_NothingToUndo : Addr} (G_NothingToUndo : mg "NothingToUndo" = some (.ref D_NothingToUndo)) {D_TooGreat : Addr} (G_TooGreat : mg "TooGreat" = some (.ref D_TooGreat)) {D_WrongGround : Addr} (G_WrongGround : mg "WrongGround" = some (.ref D_WrongGround)) (R_ValueError : KitRow K Cl (.type "ValueError") row_ValueError) (R_BadText : KitRow K Cl (.ref D_BadText) row_BadText) (M_FullhandsError : ExmRow K Cl (.ref D_FullhandsError) row_FullhandsError) (RT_Attled_Bading_Badine_Badads_BadLot_Badram_Bading_Badble_Badtor_Canove_Impble_InUUse_NoSuch_Notore_Notcal_Notedo_Notndo_Tooeat_Wround : KitRowT K Cl [D_AttemptFailed, D_BadDealing, D_BadLine, D_BadLoads, D_BadLot, D_BadProgram, D_BadStanding, D_BadTable, D_BadVector, D_CannotMove, D_Impossible, D_InUse, D_NoSuch, D_NotCore, D_NotLocal, D_NothingToRedo, D_NothingToUndo, D_TooGreat, D_WrongGround] rowT_Attled_Bading_Badine_Badads_BadLot_Badram_Bading_Badble_Badtor_Canove_Impble_InUUse_NoSuch_Notore_Notcal_Notedo_Notndo_Tooeat_Wround) (nh : ∀ a, Cl.han a = none) (H_read_run : FnH P w K mg base Cl 4 1 "read_run" ["text"] c_read_run) : FnOk P w K mg base (L2.CX P w) 5 f fd ["text"] (spV K Cl 1 c_law_pure) := by
  refine fn_v F sc_law_pure rfl (fun cdv A outer s H E hr => ?_)
  have tk : Takes (bodyCx P w K mg base ["text", "fine", "e"] "_law_pure" s_law_pure f cdv A outer s H E) (wE E) := takes_of rfl rfl rfl rfl
  have hi : HanIn (bodyCx P w K mg base ["text", "fine", "e"] "_law_pure" s_law_pure f cdv A outer s H E) Cl := hanIn0 nh
  have nd := sc_law_pure.nd
  have hp : PassesOwn (model P w) (bodyCx P w K mg base ["text", "fine", "e"] "_law_pure" s_law_pure f cdv A outer s H E).A (bodyCx P w K mg base ["text", "fine", "e"] "_law_pure" s_law_pure f cdv A outer s H E).env (bodyCx P w K mg base ["text", "fine", "e"] "_law_pure" s_law_pure f cdv A outer s H E).xe := passes_of rfl
  have hu := hr.units
  have hu5 := room65 hr
  exact (vb_cons (vs_set 1 nd (ve_bl))
  (vb_cons (vs_try nh nd tk (fun _ _ _ tk hp => vb_one (xs_expr (vx_callH tk H_read_run (hr.mono (by decide)) rfl (va_cons (ve_name 0) va_nil) (len_cons len_nil)))) (.named 2 G_FullhandsError M_FullhandsError (fun _ _ _ _ hi => vb_one (vs_set 1 nd (ve_and (ve_isEBH hi B_isinstance B_ValueError R_ValueError (ve_name 2)) (ve_and (ve_isEH hi B_isinstance G_BadText R_BadText (ve_name 2)) (ve_one (ve_not (ve_isET hi B_isinstance (.cons G_AttemptFailed (.cons G_BadDealing (.cons G_BadLine (.cons G_BadLoads (.cons G_BadLot (.cons G_BadProgram (.cons G_BadStanding (.cons G_BadTable (.cons G_BadVector (.cons G_CannotMove (.cons G_Impossible (.cons G_InUse (.cons G_NoSuch (.cons G_NotCore (.cons G_NotLocal (.cons G_NothingToRedo (.cons G_NothingToUndo (.cons G_TooGreat (.cons G_WrongGround .nil))))))))))))))))))) RT_Attled_Bading_Badine_Badads_BadLot_Badram_Bading_Badble_Badtor_Canove_Impble_InUUse_NoSuch_Notore_Notcal_Notedo_Notndo_Tooeat_Wround (ve_name 2)))))))) .nil))
  (vb_one (vs_retName 1))))
abbrev s_join_words : Stmt := topS 25
theorem sc_join_words : FnScope ["words", "word"] ["words"] (defScope s_join_words) := ⟨rfl, rfl, rfl, by decide +kernel, rfl, by decide +kernel, by decide +kernel⟩
def b_join_words : VS := vRet (vJoin (vC (.str " ")) (vComp (iSeq (vName 0)) [1] (gN 1) (fun _ => some true) (vCall (g1 gStrC) (vCons (vName 1) (fun _ => some [])))))
def c_join_words : CF := vDef 2 b_join_words
set_option maxHeartbeats 4000000 in
theorem ok_join_words {P : Program} {w : World} {K : PySem.W.Frag} {mg : Str → Option Value} {base : Heap} {Cl : ClsT} {f : Addr} {fd : FuncData} (F : Fun K "join_words" "join_words" s_join_words f fd) (B_str : mg "str" = none) : FnOk P w K mg base (L2.CX P w) 1 f fd ["words"] (spV K Cl 1 c_join_words) := by
  refine fn_v F sc_join_words rfl (fun cdv A outer s H E hr => ?_)
  have nd := sc_join_words.nd
  have hp : PassesOwn (model P w) (bodyCx P w K mg base ["words", "word"] "join_words" s_join_words f cdv A outer s H E).A (bodyCx P w K mg base ["words", "word"] "join_words" s_join_words f cdv A outer s H E).env (bodyCx P w K mg base ["words", "word"] "join_words" s_join_words f cdv A outer s H E).xe := passes_of rfl
  have hu := hr.units
  have hu5 := room65 hr
  exact (vb_one (vs_ret (ve_join (ve_str) (ve_comp (own := [("word", 1)]) rfl nd (vi_seq (ve_name 0)) (blkOk_by (N := ["words", "word"]) (sc := defScope s_join_words) (by decide +kernel)) (fun _ _ _ _ _ => vg_name 1 nd) (fun _ _ _ _ _ => vts_nil) (fun _ _ _ _ _ => ve_strc B_str (va_cons (ve_name 1) va_nil)) (by decide)))))
abbrev s_run_text : Stmt := topS 28
theorem sc_run_text : FnScope ["run", "move"] ["run"] (defScope s_run_text) := ⟨rfl, rfl, rfl, by decide +kernel, rfl, by decide +kernel, by decide +kernel⟩
def b_run_text : VS := vRet (vJoin (vC (.str "\n")) (vComp (iSeq (vName 0)) [1] (gN 1) (fun _ => some true) (vCallF c_join_words (vCons (vName 1) (fun _ => some [])))))
def c_run_text : CF := vDef 2 b_run_text
set_option maxHeartbeats 4000000 in
theorem ok_run_text {P : Program} {w : World} {K : PySem.W.Frag} {mg : Str → Option Value} {base : Heap} {Cl : ClsT} {f : Addr} {fd : FuncData} (F : Fun K "run_text" "run_text" s_run_text f fd) (H_join_words : FnH P w K mg base Cl 1 1 "join_words" ["words"] c_join_words) : FnOk P w K mg base (L2.CX P w) 2 f fd ["run"] (spV K Cl 1 c_run_text) := by
  refine fn_v F sc_run_text rfl (fun cdv A outer s H E hr => ?_)
  have nd := sc_run_text.nd
  have hp : PassesOwn (model P w) (bodyCx P w K mg base ["run", "move"] "run_text" s_run_text f cdv A outer s H E).A (bodyCx P w K mg base ["run", "move"] "run_text" s_run_text f cdv A outer s H E).env (bodyCx P w K mg base ["run", "move"] "run_text" s_run_text f cdv A outer s H E).xe := passes_of rfl
  have hu := hr.units
  have hu5 := room65 hr
  exact (vb_one (vs_ret (ve_join (ve_str) (ve_comp (own := [("move", 1)]) rfl nd (vi_seq (ve_name 0)) (blkOk_by (N := ["run", "move"]) (sc := defScope s_run_text) (by decide +kernel)) (fun _ _ _ _ _ => vg_name 1 nd) (fun _ _ _ _ _ => vts_nil) (fun _ _ _ _ _ => ve_callH H_join_words (hr.mono (by decide)) rfl (va_cons (ve_name 1) va_nil) (len_cons len_nil)) (by decide)))))
abbrev s_law : Stmt := topS 42
theorem sc_law : FnScope ["script", "pool", "run", "rows", "move", "text", "handed", "longer", "told", "other", "bad", "k"] ["script"] (defScope s_law) := ⟨rfl, rfl, rfl, by decide +kernel, rfl, by decide +kernel, by decide +kernel⟩
def b_law : VS := vSeq (vSet 1 (vCallF c_law_pool (vCons (vName 0) (vCons (vC (.int 150)) (fun _ => some [])))))
  (vSeq (vSet 2 (vCallF c_law_moves (vCons (vName 1) (vCons (vC (.int 10)) (vCons (v2 (gIC (fun _ j => decide (0 < j)) fun i j => .int (i % j)) (vCall (g1 gInt) (vCons (v2 gIx (vName 1) (vC (.int 0))) (fun _ => some []))) (vC (.int 21))) (fun _ => some []))))))
  (vSeq (vIfS (tB_ (v2 (gEq false) (v2 (gIC (fun _ j => decide (0 < j)) fun i j => .int (i % j)) (vCall (g1 gInt) (vCons (v2 gIx (vName 1) (vC (.int 1))) (fun _ => some []))) (vC (.int 8))) (vC (.int 1)))) (vSet 2 (vLst (fun _ => some []))) ((fun e => .nx e)))
  (vSeq (vIfS (tB_ (v2 (gEq false) (v2 (gIC (fun _ j => decide (0 < j)) fun i j => .int (i % j)) (vCall (g1 gInt) (vCons (v2 gIx (vName 1) (vC (.int 1))) (fun _ => some []))) (vC (.int 16))) (vC (.int 2)))) (vSet 2 (v2 gMul (vName 2) (vC (.int 6)))) ((fun e => .nx e)))
  (vSeq (vSet 3 (vComp (iSeq (vName 2)) [4] (gN 4) (fun _ => some true) (vTup (vCons (vCallF c_law_words (vCons (vName 4) (fun _ => some []))) (vCons (vC (.bl true)) (fun _ => some []))))))
  (vSeq (vSet 5 (vCallF c_law_joined_rows (vCons (vName 3) (fun _ => some []))))
  (vSeq (vSet 6 (vCall (g1 gList) (vCons (vName 2) (fun _ => some []))))
  (vSeq (vIfS (tOr_ (tNot_ (tV (vCallF (c_law_same 8) (vCons (vCallF c_run_text (vCons (vCall (g1 gTuple) (vCons (vName 2) (fun _ => some []))) (fun _ => some []))) (vCons (vName 5) (fun _ => some [])))))) (tNot_ (tV (vCallF (c_law_same 8) (vCons (vCallF c_run_text (vCons (vName 6) (fun _ => some []))) (vCons (vName 5) (fun _ => some []))))))) (vRet (vC (.bl false))) ((fun e => .nx e)))
  (vSeq (vIfS (tNot_ (tV (vCallF (c_law_same 8) (vCons (vName 6) (vCons (vName 2) (fun _ => some [])))))) (vRet (vC (.bl false))) ((fun e => .nx e)))
  (vSeq (vApp 6 (vTup (vCons (vC (.str "swap")) (vCons (vC (.int 7)) (vCons (vC (.int 0)) (vCons (vC (.int 99)) (vCons (vC (.int 10)) (fun _ => some []))))))))
  (vSeq (vSet 7 (vCallF c_law_joined_rows (vCons (v2 gAdd (vName 3) (vLst (vCons (vTup (vCons (vLst (vCons (vC (.str "swap")) (vCons (vC (.str "7")) (vCons (vC (.str "0")) (vCons (vC (.str "99")) (vCons (vC (.str "10")) (fun _ => some []))))))) (vCons (vC (.bl true)) (fun _ => some [])))) (fun _ => some [])))) (fun _ => some []))))
  (vSeq (vIfS (tOr_ (tNot_ (tV (vCallF (c_law_same 8) (vCons (vCallF c_run_text (vCons (vName 6) (fun _ => some []))) (vCons (vName 7) (fun _ => some [])))))) (tNot_ (tV (vCallF (c_law_same 8) (vCons (vCallF c_read_run (vCons (vName 7) (fun _ => some []))) (vCons (vName 6) (fun _ => some []))))))) (vRet (vC (.bl false))) ((fun e => .nx e)))
  (vSeq (xSet 8 (xCall c_read_run (vCons (vName 5) (fun _ => some []))))
  (vSeq (vIfS (tNot_ (tV (vCallF (c_law_same 8) (vCons (vName 8) (vCons (vName 2) (fun _ => some [])))))) (vRet (vC (.bl false))) ((fun e => .nx e)))
  (vSeq (vApp 8 (vTup (vCons (vC (.str "enter")) (vCons (vC (.int 1)) (fun _ => some [])))))
  (vSeq (vIfS (tB_ (v2 (gEq false) (v2 (gIC (fun _ j => decide (0 < j)) fun i j => .int (i % j)) (vCall (g1 gInt) (vCons (v2 gIx (vName 1) (vC (.int 2))) (fun _ => some []))) (vC (.int 2))) (vC (.int 1)))) (vSet 3 (vCallF c_law_changed (vCons (vName 3) (vCons (vName 1) (vCons (vC (.int 130)) (fun _ => some [])))))) ((fun e => .nx e)))
  (vSeq (vIfS (tB_ (v2 (gEq false) (v2 (gIC (fun _ j => decide (0 < j)) fun i j => .int (i % j)) (vCall (g1 gInt) (vCons (v2 gIx (vName 1) (vC (.int 2))) (fun _ => some []))) (vC (.int 4))) (vC (.int 3)))) (vSet 3 (vCallF c_law_changed (vCons (vName 3) (vCons (vName 1) (vCons (vC (.int 140)) (fun _ => some [])))))) ((fun e => .nx e)))
  (vSeq (vSet 9 (vCallF c_law_joined_rows (vCons (vName 3) (fun _ => some []))))
  (vSeq (vSet 10 (vComp (iRange1 (vCons (vCall (g1 gLen) (vCons (vName 3) (fun _ => some []))) (fun _ => some []))) [11] (gN 11) (tNot_ (tV (v2 gIx (v2 gIx (vName 3) (vName 11)) (vC (.int 1))))) (v2 gAdd (vName 11) (vC (.int 1)))))
  (vSeq (vIfS (tOr_ (tB_ (v2 (gEq false) (vName 9) (vC (.str "")))) (tB_ (v2 (gEq false) (vName 10) (vLst (fun _ => some []))))) (vRet (vCallF (c_law_same 8) (vCons (vCallF c_law_read (vCons (vName 9) (fun _ => some []))) (vCons (vName 2) (fun _ => some []))))) ((fun e => .nx e)))
  (vSeq (vIfS (tOr_ (tNot_ (tV (vCallF (c_law_same 8) (vCons (vCallF c_law_read (vCons (vName 9) (fun _ => some []))) (vCons (vTup (vCons (vC (.str "refused")) (vCons (v2 gIx (vName 10) (vC (.int 0))) (fun _ => some [])))) (fun _ => some [])))))) (tNot_ (tV (vCallF c_law_pure (vCons (vName 9) (fun _ => some [])))))) (vRet (vC (.bl false))) ((fun e => .nx e)))
  (vRet (vCallF (c_law_same 8) (vCons (vCallF c_law_read (vCons (vName 5) (fun _ => some []))) (vCons (vName 2) (fun _ => some [])))))))))))))))))))))))))
def c_law : CF := vDef 12 b_law
set_option maxHeartbeats 4000000 in
theorem ok_law {P : Program} {w : World} {K : PySem.W.Frag} {mg : Str → Option Value} {base : Heap} {Cl : ClsT} {f : Addr} {fd : FuncData} (F : Fun K "law" "law" s_law f fd) (B_int : mg "int" = none) (B_len : mg "len" = none) (B_list : mg "list" = none) (B_range : mg "range" = none) (B_tuple : mg "tuple" = none) (H_law_pool : FnH P w K mg base Cl 2 2 "_law_pool" ["script", "many"] c_law_pool) (H_law_moves : FnH P w K mg base Cl 1 3 "_law_moves" ["pool", "start", "many"] c_law_moves) (H_law_words : FnH P w K mg base Cl 1 1 "_law_words" ["move"] c_law_words) (H_law_joined_rows : FnH P w K mg base Cl 1 1 "_law_joined_rows" ["rows"] c_law_joined_rows) (H_run_text : FnH P w K mg base Cl 2 1 "run_text" ["run"] c_run_text) (H_law_same : FnH P w K mg base Cl 8 2 "_law_same" ["actual", "due"] (c_law_same 8)) (H_read_run : FnH P w K mg base Cl 4 1 "read_run" ["text"] c_read_run) (H_law_changed : FnH P w K mg base Cl 2 3 "_law_changed" ["rows", "pool", "start"] c_law_changed) (H_law_read : FnH P w K mg base Cl 5 1 "_law_read" ["text"] c_law_read) (H_law_pure : FnH P w K mg base Cl 5 1 "_law_pure" ["text"] c_law_pure) : FnOk P w K mg base (L2.CX P w) 9 f fd ["script"] (spV K Cl 1 c_law) := by
  refine fn_v F sc_law rfl (fun cdv A outer s H E hr => ?_)
  have tk : Takes (bodyCx P w K mg base ["script", "pool", "run", "rows", "move", "text", "handed", "longer", "told", "other", "bad", "k"] "law" s_law f cdv A outer s H E) (wE E) := takes_of rfl rfl rfl rfl
  have nd := sc_law.nd
  have hp : PassesOwn (model P w) (bodyCx P w K mg base ["script", "pool", "run", "rows", "move", "text", "handed", "longer", "told", "other", "bad", "k"] "law" s_law f cdv A outer s H E).A (bodyCx P w K mg base ["script", "pool", "run", "rows", "move", "text", "handed", "longer", "told", "other", "bad", "k"] "law" s_law f cdv A outer s H E).env (bodyCx P w K mg base ["script", "pool", "run", "rows", "move", "text", "handed", "longer", "told", "other", "bad", "k"] "law" s_law f cdv A outer s H E).xe := passes_of rfl
  have hu := hr.units
  have hu5 := room65 hr
  exact (vb_cons (vs_set 1 nd (ve_callH H_law_pool (hr.mono (by decide)) rfl (va_cons (ve_name 0) (va_cons (ve_int) va_nil)) (len_cons (len_cons len_nil))))
  (vb_cons (vs_set 2 nd (ve_callH H_law_moves (hr.mono (by decide)) rfl (va_cons (ve_name 1) (va_cons (ve_int) (va_cons (ve_mod (ve_intc B_int (va_cons (ve_ix (ve_name 1) (ve_int)) va_nil)) (ve_int)) va_nil))) (len_cons (len_cons (len_cons len_nil)))))
  (vb_cons (vs_if (vt_eq hu (ve_mod (ve_intc B_int (va_cons (ve_ix (ve_name 1) (ve_int)) va_nil)) (ve_int)) (ve_int)) (vb_one (vs_set 2 nd (ve_lst va_nil))) (vb_nil))
  (vb_cons (vs_if (vt_eq hu (ve_mod (ve_intc B_int (va_cons (ve_ix (ve_name 1) (ve_int)) va_nil)) (ve_int)) (ve_int)) (vb_one (vs_set 2 nd (ve_mul (ve_name 2) (ve_int)))) (vb_nil))
  (vb_cons (vs_set 3 nd (ve_comp (own := [("move", 4)]) rfl nd (vi_seq (ve_name 2)) (blkOk_by (N := ["script", "pool", "run", "rows", "move", "text", "handed", "longer", "told", "other", "bad", "k"]) (sc := defScope s_law) (by decide +kernel)) (fun _ _ _ _ _ => vg_name 4 nd) (fun _ _ _ _ _ => vts_nil) (fun _ _ _ _ _ => ve_tup (va_cons (ve_callH H_law_words (hr.mono (by decide)) rfl (va_cons (ve_name 4) va_nil) (len_cons len_nil)) (va_cons (ve_bl) va_nil))) (by decide)))
  (vb_cons (vs_set 5 nd (ve_callH H_law_joined_rows (hr.mono (by decide)) rfl (va_cons (ve_name 3) va_nil) (len_cons len_nil)))
  (vb_cons (vs_set 6 nd (ve_list B_list (va_cons (ve_name 2) va_nil)))
  (vb_cons (vs_if (vt_w (vw_or (vt_not (vt_val (ve_callH H_law_same (hr.mono (by decide)) rfl (va_cons (ve_callH H_run_text (hr.mono (by decide)) rfl (va_cons (ve_tuple B_tuple (va_cons (ve_name 2) va_nil)) va_nil) (len_cons len_nil)) (va_cons (ve_name 5) va_nil)) (len_cons (len_cons len_nil))))) (vw_or1 (vt_not (vt_val (ve_callH H_law_same (hr.mono (by decide)) rfl (va_cons (ve_callH H_run_text (hr.mono (by decide)) rfl (va_cons (ve_name 6) va_nil) (len_cons len_nil)) (va_cons (ve_name 5) va_nil)) (len_cons (len_cons len_nil)))))))) (vb_one (vs_ret (ve_bl))) (vb_nil))
  (vb_cons (vs_if (vt_not (vt_val (ve_callH H_law_same (hr.mono (by decide)) rfl (va_cons (ve_name 6) (va_cons (ve_name 2) va_nil)) (len_cons (len_cons len_nil))))) (vb_one (vs_ret (ve_bl))) (vb_nil))
  (vb_cons (vs_append 6 (ve_tup (va_cons (ve_str) (va_cons (ve_int) (va_cons (ve_int) (va_cons (ve_int) (va_cons (ve_int) va_nil)))))))
  (vb_cons (vs_set 7 nd (ve_callH H_law_joined_rows (hr.mono (by decide)) rfl (va_cons (ve_add (ve_name 3) (ve_lst (va_cons (ve_tup (va_cons (ve_lst (va_cons (ve_str) (va_cons (ve_str) (va_cons (ve_str) (va_cons (ve_str) (va_cons (ve_str) va_nil)))))) (va_cons (ve_bl) va_nil))) va_nil))) va_nil) (len_cons len_nil)))
  (vb_cons (vs_if (vt_w (vw_or (vt_not (vt_val (ve_callH H_law_same (hr.mono (by decide)) rfl (va_cons (ve_callH H_run_text (hr.mono (by decide)) rfl (va_cons (ve_name 6) va_nil) (len_cons len_nil)) (va_cons (ve_name 7) va_nil)) (len_cons (len_cons len_nil))))) (vw_or1 (vt_not (vt_val (ve_callH H_law_same (hr.mono (by decide)) rfl (va_cons (ve_callH H_read_run (hr.mono (by decide)) rfl (va_cons (ve_name 7) va_nil) (len_cons len_nil)) (va_cons (ve_name 6) va_nil)) (len_cons (len_cons len_nil)))))))) (vb_one (vs_ret (ve_bl))) (vb_nil))
  (vb_cons (xs_set 8 nd (vx_callH tk H_read_run (hr.mono (by decide)) rfl (va_cons (ve_name 5) va_nil) (len_cons len_nil)))
  (vb_cons (vs_if (vt_not (vt_val (ve_callH H_law_same (hr.mono (by decide)) rfl (va_cons (ve_name 8) (va_cons (ve_name 2) va_nil)) (len_cons (len_cons len_nil))))) (vb_one (vs_ret (ve_bl))) (vb_nil))
  (vb_cons (vs_append 8 (ve_tup (va_cons (ve_str) (va_cons (ve_int) va_nil))))
  (vb_cons (vs_if (vt_eq hu (ve_mod (ve_intc B_int (va_cons (ve_ix (ve_name 1) (ve_int)) va_nil)) (ve_int)) (ve_int)) (vb_one (vs_set 3 nd (ve_callH H_law_changed (hr.mono (by decide)) rfl (va_cons (ve_name 3) (va_cons (ve_name 1) (va_cons (ve_int) va_nil))) (len_cons (len_cons (len_cons len_nil)))))) (vb_nil))
  (vb_cons (vs_if (vt_eq hu (ve_mod (ve_intc B_int (va_cons (ve_ix (ve_name 1) (ve_int)) va_nil)) (ve_int)) (ve_int)) (vb_one (vs_set 3 nd (ve_callH H_law_changed (hr.mono (by decide)) rfl (va_cons (ve_name 3) (va_cons (ve_name 1) (va_cons (ve_int) va_nil))) (len_cons (len_cons (len_cons len_nil)))))) (vb_nil))
  (vb_cons (vs_set 9 nd (ve_callH H_law_joined_rows (hr.mono (by decide)) rfl (va_cons (ve_name 3) va_nil) (len_cons len_nil)))
  (vb_cons (vs_setLc 10 (own := [("k", 11)]) rfl nd (vi_range1 B_range (va_cons (ve_len B_len (va_cons (ve_name 3) va_nil)) va_nil)) (blkOk_by (N := ["script", "pool", "run", "rows", "move", "text", "handed", "longer", "told", "other", "bad", "k"]) (sc := defScope s_law) (by decide +kernel)) (fun _ _ _ _ _ => vg_name 11 nd) (fun _ _ _ _ _ => vts_one (vt_not (vt_val (ve_ix (ve_ix (ve_name 3) (ve_name 11)) (ve_int))))) (fun _ _ _ _ _ => ve_add (ve_name 11) (ve_int)) (by decide))
  (vb_cons (vs_if (vt_w (vw_or (vt_eq hu (ve_name 9) (ve_str)) (vw_or1 (vt_eq hu (ve_name 10) (ve_lst va_nil))))) (vb_one (vs_ret (ve_callH H_law_same (hr.mono (by decide)) rfl (va_cons (ve_callH H_law_read (hr.mono (by decide)) rfl (va_cons (ve_name 9) va_nil) (len_cons len_nil)) (va_cons (ve_name 2) va_nil)) (len_cons (len_cons len_nil))))) (vb_nil))
  (vb_cons (vs_if (vt_w (vw_or (vt_not (vt_val (ve_callH H_law_same (hr.mono (by decide)) rfl (va_cons (ve_callH H_law_read (hr.mono (by decide)) rfl (va_cons (ve_name 9) va_nil) (len_cons len_nil)) (va_cons (ve_tup (va_cons (ve_str) (va_cons (ve_ix (ve_name 10) (ve_int)) va_nil))) va_nil)) (len_cons (len_cons len_nil))))) (vw_or1 (vt_not (vt_val (ve_callH H_law_pure (hr.mono (by decide)) rfl (va_cons (ve_name 9) va_nil) (len_cons len_nil))))))) (vb_one (vs_ret (ve_bl))) (vb_nil))
  (vb_one (vs_ret (ve_callH H_law_same (hr.mono (by decide)) rfl (va_cons (ve_callH H_law_read (hr.mono (by decide)) rfl (va_cons (ve_name 5) va_nil) (len_cons len_nil)) (va_cons (ve_name 2) va_nil)) (len_cons (len_cons len_nil))))))))))))))))))))))))))
abbrev s_init_BadText : Stmt := inClass (topS 3) 0
theorem sc_init_BadText : FnScope ["self", "line"] ["self", "line"] (defScope s_init_BadText) := ⟨rfl, rfl, rfl, by decide +kernel, rfl, by decide +kernel, by decide +kernel⟩
theorem ok_init_BadText {P : Program} {w : World} {K : PySem.W.Frag} {mg : Str → Option Value} {base : Heap} {C f : Addr} {fd : FuncData} (F : Fun K "__init__" "BadText.__init__" s_init_BadText f fd) (T : OexC K C) (no : ∀ f ∈ (["line"] : List Str), PySem.W.findIn K (.ref C) f = some none) : FnOk P w K mg base (L2.CX P w) 1 f fd ["self", "line"] (spI K C ["line"]) :=
  fn_init1 F sc_init_BadText rfl T (no "line" (by decide)) (fun cdv A outer s H E => ps_ost (pe_var (i := 0) rfl (.inl rfl)) (pe_var (i := 1) rfl (.inl rfl)))
theorem all_mk {P : Program} {w : World} {K : PySem.W.Frag} {h : Heap} {mg : Str → Option Value} {fa : Addr} {C_FullhandsError C_BadTable C_BadText C_BadStanding C_CannotMove C_NoSuch C_WrongGround C_TooGreat C_BadVector C_NotLocal C_BadProgram C_InUse C_AttemptFailed C_BadLot C_BadDealing C_NotCore C_BadLoads C_Impossible C_BadLine C_NothingToUndo C_NothingToRedo : Addr} {fi_BadText : Addr} {od_init_BadText an_init_BadText : Option Addr} {sl_init_BadText : Array (Option Value)} {oc_init_BadText kV_init_BadText dc_init_BadText pm_init_BadText cd_init_BadText ct_init_BadText : Value} {f_FORMS : Addr} {f_law_mixed : Addr} {od_law_mixed an_law_mixed : Option Addr} {sl_law_mixed : Array (Option Value)} {oc_law_mixed kV_law_mixed dc_law_mixed pm_law_mixed cd_law_mixed ct_law_mixed : Value} {f_law_pool : Addr} {od_law_pool an_law_pool : Option Addr} {sl_law_pool : Array (Option Value)} {oc_law_pool kV_law_pool dc_law_pool pm_law_pool cd_law_pool ct_law_pool : Value} {f_law_moves : Addr} {od_law_moves an_law_moves : Option Addr} {sl_law_moves : Array (Option Value)} {oc_law_moves kV_law_moves dc_law_moves pm_law_moves cd_law_moves ct_law_moves : Value} {f_law_joined_rows : Addr} {od_law_joined_rows an_law_joined_rows : Option Addr} {sl_law_joined_rows : Array (Option Value)} {oc_law_joined_rows kV_law_joined_rows dc_law_joined_rows pm_law_joined_rows cd_law_joined_rows ct_law_joined_rows : Value} {f_is_number : Addr} {od_is_number an_is_number : Option Addr} {sl_is_number : Array (Option Value)} {oc_is_number kV_is_number dc_is_number pm_is_number cd_is_number ct_is_number : Value} {f_read_numbers : Addr} {od_read_numbers an_read_numbers : Option Addr} {sl_read_numbers : Array (Option Value)} {oc_read_numbers kV_read_numbers dc_read_numbers pm_read_numbers cd_read_numbers ct_read_numbers : Value} {f_read_move : Addr} {od_read_move an_read_move : Option Addr} {sl_read_move : Array (Option Value)} {oc_read_move kV_read_move dc_read_move pm_read_move cd_read_move ct_read_move : Value} {f_read_run : Addr} {od_read_run an_read_run : Option Addr} {sl_read_run : Array (Option Value)} {oc_read_run kV_read_run dc_read_run pm_read_run cd_read_run ct_read_run : Value} {f_law_same : Addr} {od_law_same an_law_same : Option Addr} {sl_law_same : Array (Option Value)} {oc_law_same kV_law_same dc_law_same pm_law_same cd_law_same ct_law_same : Value} {f_law_bad_words : Addr} {od_law_bad_words an_law_bad_words : Option Addr} {sl_law_bad_words : Array (Option Value)} {oc_law_bad_words kV_law_bad_words dc_law_bad_words pm_law_bad_words cd_law_bad_words ct_law_bad_words : Value} {f_law_changed : Addr} {od_law_changed an_law_changed : Option Addr} {sl_law_changed : Array (Option Value)} {oc_law_changed kV_law_changed dc_law_changed pm_law_changed cd_law_changed ct_law_changed : Value} {f_law_read : Addr} {od_law_read an_law_read : Option Addr} {sl_law_read : Array (Option Value)} {oc_law_read kV_law_read dc_law_read pm_law_read cd_law_read ct_law_read : Value} {f_law_words : Addr} {od_law_words an_law_words : Option Addr} {sl_law_words : Array (Option Value)} {oc_law_words kV_law_words dc_law_words pm_law_words cd_law_words ct_law_words : Value} {f_law_pure : Addr} {od_law_pure an_law_pure : Option Addr} {sl_law_pure : Array (Option Value)} {oc_law_pure kV_law_pure dc_law_pure pm_law_pure cd_law_pure ct_law_pure : Value} {f_join_words : Addr} {od_join_words an_join_words : Option Addr} {sl_join_words : Array (Option Value)} {oc_join_words kV_join_words dc_join_words pm_join_words cd_join_words ct_join_words : Value} {f_run_text : Addr} {od_run_text an_run_text : Option Addr} {sl_run_text : Array (Option Value)} {oc_run_text kV_run_text dc_run_text pm_run_text cd_run_text ct_run_text : Value} {f_law : Addr} {od_law an_law : Option Addr} {sl_law : Array (Option Value)} {oc_law kV_law dc_law pm_law cd_law ct_law : Value} (X : K.In h) (G : h.Ns mainGlobals mg) (hfa : mg "law" = some (.ref fa))
    (z_ValueError : PySem.W.nsIn K mainGlobals "ValueError" = some none)
    (z_abs : PySem.W.nsIn K mainGlobals "abs" = some none)
    (z_all : PySem.W.nsIn K mainGlobals "all" = some none)
    (z_bool : PySem.W.nsIn K mainGlobals "bool" = some none)
    (z_enumerate : PySem.W.nsIn K mainGlobals "enumerate" = some none)
    (z_int : PySem.W.nsIn K mainGlobals "int" = some none)
    (z_isinstance : PySem.W.nsIn K mainGlobals "isinstance" = some none)
    (z_len : PySem.W.nsIn K mainGlobals "len" = some none)
    (z_list : PySem.W.nsIn K mainGlobals "list" = some none)
    (z_range : PySem.W.nsIn K mainGlobals "range" = some none)
    (z_str : PySem.W.nsIn K mainGlobals "str" = some none)
    (z_tuple : PySem.W.nsIn K mainGlobals "tuple" = some none)
    (a_FullhandsError : PySem.W.nsIn K mainGlobals "FullhandsError" = some (some (.ref C_FullhandsError)))
    (a_BadTable : PySem.W.nsIn K mainGlobals "BadTable" = some (some (.ref C_BadTable)))
    (a_BadText : PySem.W.nsIn K mainGlobals "BadText" = some (some (.ref C_BadText)))
    (a_BadStanding : PySem.W.nsIn K mainGlobals "BadStanding" = some (some (.ref C_BadStanding)))
    (a_CannotMove : PySem.W.nsIn K mainGlobals "CannotMove" = some (some (.ref C_CannotMove)))
    (a_NoSuch : PySem.W.nsIn K mainGlobals "NoSuch" = some (some (.ref C_NoSuch)))
    (a_WrongGround : PySem.W.nsIn K mainGlobals "WrongGround" = some (some (.ref C_WrongGround)))
    (a_TooGreat : PySem.W.nsIn K mainGlobals "TooGreat" = some (some (.ref C_TooGreat)))
    (a_BadVector : PySem.W.nsIn K mainGlobals "BadVector" = some (some (.ref C_BadVector)))
    (a_NotLocal : PySem.W.nsIn K mainGlobals "NotLocal" = some (some (.ref C_NotLocal)))
    (a_BadProgram : PySem.W.nsIn K mainGlobals "BadProgram" = some (some (.ref C_BadProgram)))
    (a_InUse : PySem.W.nsIn K mainGlobals "InUse" = some (some (.ref C_InUse)))
    (a_AttemptFailed : PySem.W.nsIn K mainGlobals "AttemptFailed" = some (some (.ref C_AttemptFailed)))
    (a_BadLot : PySem.W.nsIn K mainGlobals "BadLot" = some (some (.ref C_BadLot)))
    (a_BadDealing : PySem.W.nsIn K mainGlobals "BadDealing" = some (some (.ref C_BadDealing)))
    (a_NotCore : PySem.W.nsIn K mainGlobals "NotCore" = some (some (.ref C_NotCore)))
    (a_BadLoads : PySem.W.nsIn K mainGlobals "BadLoads" = some (some (.ref C_BadLoads)))
    (a_Impossible : PySem.W.nsIn K mainGlobals "Impossible" = some (some (.ref C_Impossible)))
    (a_BadLine : PySem.W.nsIn K mainGlobals "BadLine" = some (some (.ref C_BadLine)))
    (a_NothingToUndo : PySem.W.nsIn K mainGlobals "NothingToUndo" = some (some (.ref C_NothingToUndo)))
    (a_NothingToRedo : PySem.W.nsIn K mainGlobals "NothingToRedo" = some (some (.ref C_NothingToRedo)))
    (o_BadText : oexB K C_BadText = true)
    (n_BadText : noAttB K C_BadText ["line"] = true)
    (i_BadText : PySem.W.findIn K (.ref C_BadText) "__init__" = some (some (.ref fi_BadText)))
    (t_BadText : PySem.W.typeIn K (.ref fi_BadText) = some (.type "function"))
    (l_init_BadText : K.lookup fi_BadText = some ⟨oc_init_BadText, od_init_BadText, .func (PySem.W.fnOf "__init__" "BadText.__init__" (defArgs s_init_BadText) (defBody s_init_BadText) (defScope s_init_BadText) .none kV_init_BadText dc_init_BadText pm_init_BadText an_init_BadText cd_init_BadText ct_init_BadText), sl_init_BadText⟩)
    (cc_init_BadText : PySem.W.codeIn K cd_init_BadText "BadText.__init__" = true)
    (k_init_BadText : PySem.W.keepIn K (.ref fi_BadText) = true)
    (r_ValueError : kitRow K [C_FullhandsError, C_BadTable, C_BadText, C_BadStanding, C_CannotMove, C_NoSuch, C_WrongGround, C_TooGreat, C_BadVector, C_NotLocal, C_BadProgram, C_InUse, C_AttemptFailed, C_BadLot, C_BadDealing, C_NotCore, C_BadLoads, C_Impossible, C_BadLine, C_NothingToUndo, C_NothingToRedo] (.type "ValueError") row_ValueError = true)
    (r_BadText : kitRow K [C_FullhandsError, C_BadTable, C_BadText, C_BadStanding, C_CannotMove, C_NoSuch, C_WrongGround, C_TooGreat, C_BadVector, C_NotLocal, C_BadProgram, C_InUse, C_AttemptFailed, C_BadLot, C_BadDealing, C_NotCore, C_BadLoads, C_Impossible, C_BadLine, C_NothingToUndo, C_NothingToRedo] (.ref C_BadText) row_BadText = true)
    (m_BadText : exmRow K [C_FullhandsError, C_BadTable, C_BadText, C_BadStanding, C_CannotMove, C_NoSuch, C_WrongGround, C_TooGreat, C_BadVector, C_NotLocal, C_BadProgram, C_InUse, C_AttemptFailed, C_BadLot, C_BadDealing, C_NotCore, C_BadLoads, C_Impossible, C_BadLine, C_NothingToUndo, C_NothingToRedo] (.ref C_BadText) row_BadText = true)
    (m_FullhandsError : exmRow K [C_FullhandsError, C_BadTable, C_BadText, C_BadStanding, C_CannotMove, C_NoSuch, C_WrongGround, C_TooGreat, C_BadVector, C_NotLocal, C_BadProgram, C_InUse, C_AttemptFailed, C_BadLot, C_BadDealing, C_NotCore, C_BadLoads, C_Impossible, C_BadLine, C_NothingToUndo, C_NothingToRedo] (.ref C_FullhandsError) row_FullhandsError = true)
    (rT_Attled_Bading_Badine_Badads_BadLot_Badram_Bading_Badble_Badtor_Canove_Impble_InUUse_NoSuch_Notore_Notcal_Notedo_Notndo_Tooeat_Wround : kitRowT K [C_FullhandsError, C_BadTable, C_BadText, C_BadStanding, C_CannotMove, C_NoSuch, C_WrongGround, C_TooGreat, C_BadVector, C_NotLocal, C_BadProgram, C_InUse, C_AttemptFailed, C_BadLot, C_BadDealing, C_NotCore, C_BadLoads, C_Impossible, C_BadLine, C_NothingToUndo, C_NothingToRedo] [C_AttemptFailed, C_BadDealing, C_BadLine, C_BadLoads, C_BadLot, C_BadProgram, C_BadStanding, C_BadTable, C_BadVector, C_CannotMove, C_Impossible, C_InUse, C_NoSuch, C_NotCore, C_NotLocal, C_NothingToRedo, C_NothingToUndo, C_TooGreat, C_WrongGround] rowT_Attled_Bading_Badine_Badads_BadLot_Badram_Bading_Badble_Badtor_Canove_Impble_InUUse_NoSuch_Notore_Notcal_Notedo_Notndo_Tooeat_Wround = true)
    (a_FORMS : PySem.W.nsIn K mainGlobals "FORMS" = some (some (.ref f_FORMS)))
    (dw_FORMS : He.dicW K f_FORMS = some (He.keysIn w.params ["enter", "pass", "swap"]))
    (dv_FORMS : kdcB K f_FORMS K_FORMS = true)
    (a_law_mixed : PySem.W.nsIn K mainGlobals "_law_mixed" = some (some (.ref f_law_mixed)))
    (l_law_mixed : K.lookup f_law_mixed = some ⟨oc_law_mixed, od_law_mixed, .func (PySem.W.fnOf "_law_mixed" "_law_mixed" (defArgs s_law_mixed) (defBody s_law_mixed) (defScope s_law_mixed) .none kV_law_mixed dc_law_mixed pm_law_mixed an_law_mixed cd_law_mixed ct_law_mixed), sl_law_mixed⟩)
    (cc_law_mixed : PySem.W.codeIn K cd_law_mixed "_law_mixed" = true)
    (k_law_mixed : PySem.W.keepIn K (.ref f_law_mixed) = true)
    (a_law_pool : PySem.W.nsIn K mainGlobals "_law_pool" = some (some (.ref f_law_pool)))
    (l_law_pool : K.lookup f_law_pool = some ⟨oc_law_pool, od_law_pool, .func (PySem.W.fnOf "_law_pool" "_law_pool" (defArgs s_law_pool) (defBody s_law_pool) (defScope s_law_pool) .none kV_law_pool dc_law_pool pm_law_pool an_law_pool cd_law_pool ct_law_pool), sl_law_pool⟩)
    (cc_law_pool : PySem.W.codeIn K cd_law_pool "_law_pool" = true)
    (k_law_pool : PySem.W.keepIn K (.ref f_law_pool) = true)
    (a_law_moves : PySem.W.nsIn K mainGlobals "_law_moves" = some (some (.ref f_law_moves)))
    (l_law_moves : K.lookup f_law_moves = some ⟨oc_law_moves, od_law_moves, .func (PySem.W.fnOf "_law_moves" "_law_moves" (defArgs s_law_moves) (defBody s_law_moves) (defScope s_law_moves) .none kV_law_moves dc_law_moves pm_law_moves an_law_moves cd_law_moves ct_law_moves), sl_law_moves⟩)
    (cc_law_moves : PySem.W.codeIn K cd_law_moves "_law_moves" = true)
    (k_law_moves : PySem.W.keepIn K (.ref f_law_moves) = true)
    (a_law_joined_rows : PySem.W.nsIn K mainGlobals "_law_joined_rows" = some (some (.ref f_law_joined_rows)))
    (l_law_joined_rows : K.lookup f_law_joined_rows = some ⟨oc_law_joined_rows, od_law_joined_rows, .func (PySem.W.fnOf "_law_joined_rows" "_law_joined_rows" (defArgs s_law_joined_rows) (defBody s_law_joined_rows) (defScope s_law_joined_rows) .none kV_law_joined_rows dc_law_joined_rows pm_law_joined_rows an_law_joined_rows cd_law_joined_rows ct_law_joined_rows), sl_law_joined_rows⟩)
    (cc_law_joined_rows : PySem.W.codeIn K cd_law_joined_rows "_law_joined_rows" = true)
    (k_law_joined_rows : PySem.W.keepIn K (.ref f_law_joined_rows) = true)
    (a_is_number : PySem.W.nsIn K mainGlobals "is_number" = some (some (.ref f_is_number)))
    (l_is_number : K.lookup f_is_number = some ⟨oc_is_number, od_is_number, .func (PySem.W.fnOf "is_number" "is_number" (defArgs s_is_number) (defBody s_is_number) (defScope s_is_number) .none kV_is_number dc_is_number pm_is_number an_is_number cd_is_number ct_is_number), sl_is_number⟩)
    (cc_is_number : PySem.W.codeIn K cd_is_number "is_number" = true)
    (k_is_number : PySem.W.keepIn K (.ref f_is_number) = true)
    (a_read_numbers : PySem.W.nsIn K mainGlobals "read_numbers" = some (some (.ref f_read_numbers)))
    (l_read_numbers : K.lookup f_read_numbers = some ⟨oc_read_numbers, od_read_numbers, .func (PySem.W.fnOf "read_numbers" "read_numbers" (defArgs s_read_numbers) (defBody s_read_numbers) (defScope s_read_numbers) .none kV_read_numbers dc_read_numbers pm_read_numbers an_read_numbers cd_read_numbers ct_read_numbers), sl_read_numbers⟩)
    (cc_read_numbers : PySem.W.codeIn K cd_read_numbers "read_numbers" = true)
    (k_read_numbers : PySem.W.keepIn K (.ref f_read_numbers) = true)
    (a_read_move : PySem.W.nsIn K mainGlobals "read_move" = some (some (.ref f_read_move)))
    (l_read_move : K.lookup f_read_move = some ⟨oc_read_move, od_read_move, .func (PySem.W.fnOf "read_move" "read_move" (defArgs s_read_move) (defBody s_read_move) (defScope s_read_move) .none kV_read_move dc_read_move pm_read_move an_read_move cd_read_move ct_read_move), sl_read_move⟩)
    (cc_read_move : PySem.W.codeIn K cd_read_move "read_move" = true)
    (k_read_move : PySem.W.keepIn K (.ref f_read_move) = true)
    (a_read_run : PySem.W.nsIn K mainGlobals "read_run" = some (some (.ref f_read_run)))
    (l_read_run : K.lookup f_read_run = some ⟨oc_read_run, od_read_run, .func (PySem.W.fnOf "read_run" "read_run" (defArgs s_read_run) (defBody s_read_run) (defScope s_read_run) .none kV_read_run dc_read_run pm_read_run an_read_run cd_read_run ct_read_run), sl_read_run⟩)
    (cc_read_run : PySem.W.codeIn K cd_read_run "read_run" = true)
    (k_read_run : PySem.W.keepIn K (.ref f_read_run) = true)
    (a_law_same : PySem.W.nsIn K mainGlobals "_law_same" = some (some (.ref f_law_same)))
    (l_law_same : K.lookup f_law_same = some ⟨oc_law_same, od_law_same, .func (PySem.W.fnOf "_law_same" "_law_same" (defArgs s_law_same) (defBody s_law_same) (defScope s_law_same) .none kV_law_same dc_law_same pm_law_same an_law_same cd_law_same ct_law_same), sl_law_same⟩)
    (cc_law_same : PySem.W.codeIn K cd_law_same "_law_same" = true)
    (k_law_same : PySem.W.keepIn K (.ref f_law_same) = true)
    (a_law_bad_words : PySem.W.nsIn K mainGlobals "_law_bad_words" = some (some (.ref f_law_bad_words)))
    (l_law_bad_words : K.lookup f_law_bad_words = some ⟨oc_law_bad_words, od_law_bad_words, .func (PySem.W.fnOf "_law_bad_words" "_law_bad_words" (defArgs s_law_bad_words) (defBody s_law_bad_words) (defScope s_law_bad_words) .none kV_law_bad_words dc_law_bad_words pm_law_bad_words an_law_bad_words cd_law_bad_words ct_law_bad_words), sl_law_bad_words⟩)
    (cc_law_bad_words : PySem.W.codeIn K cd_law_bad_words "_law_bad_words" = true)
    (k_law_bad_words : PySem.W.keepIn K (.ref f_law_bad_words) = true)
    (a_law_changed : PySem.W.nsIn K mainGlobals "_law_changed" = some (some (.ref f_law_changed)))
    (l_law_changed : K.lookup f_law_changed = some ⟨oc_law_changed, od_law_changed, .func (PySem.W.fnOf "_law_changed" "_law_changed" (defArgs s_law_changed) (defBody s_law_changed) (defScope s_law_changed) .none kV_law_changed dc_law_changed pm_law_changed an_law_changed cd_law_changed ct_law_changed), sl_law_changed⟩)
    (cc_law_changed : PySem.W.codeIn K cd_law_changed "_law_changed" = true)
    (k_law_changed : PySem.W.keepIn K (.ref f_law_changed) = true)
    (a_law_read : PySem.W.nsIn K mainGlobals "_law_read" = some (some (.ref f_law_read)))
    (l_law_read : K.lookup f_law_read = some ⟨oc_law_read, od_law_read, .func (PySem.W.fnOf "_law_read" "_law_read" (defArgs s_law_read) (defBody s_law_read) (defScope s_law_read) .none kV_law_read dc_law_read pm_law_read an_law_read cd_law_read ct_law_read), sl_law_read⟩)
    (cc_law_read : PySem.W.codeIn K cd_law_read "_law_read" = true)
    (k_law_read : PySem.W.keepIn K (.ref f_law_read) = true)
    (a_law_words : PySem.W.nsIn K mainGlobals "_law_words" = some (some (.ref f_law_words)))
    (l_law_words : K.lookup f_law_words = some ⟨oc_law_words, od_law_words, .func (PySem.W.fnOf "_law_words" "_law_words" (defArgs s_law_words) (defBody s_law_words) (defScope s_law_words) .none kV_law_words dc_law_words pm_law_words an_law_words cd_law_words ct_law_words), sl_law_words⟩)
    (cc_law_words : PySem.W.codeIn K cd_law_words "_law_words" = true)
    (k_law_words : PySem.W.keepIn K (.ref f_law_words) = true)
    (a_law_pure : PySem.W.nsIn K mainGlobals "_law_pure" = some (some (.ref f_law_pure)))
    (l_law_pure : K.lookup f_law_pure = some ⟨oc_law_pure, od_law_pure, .func (PySem.W.fnOf "_law_pure" "_law_pure" (defArgs s_law_pure) (defBody s_law_pure) (defScope s_law_pure) .none kV_law_pure dc_law_pure pm_law_pure an_law_pure cd_law_pure ct_law_pure), sl_law_pure⟩)
    (cc_law_pure : PySem.W.codeIn K cd_law_pure "_law_pure" = true)
    (k_law_pure : PySem.W.keepIn K (.ref f_law_pure) = true)
    (a_join_words : PySem.W.nsIn K mainGlobals "join_words" = some (some (.ref f_join_words)))
    (l_join_words : K.lookup f_join_words = some ⟨oc_join_words, od_join_words, .func (PySem.W.fnOf "join_words" "join_words" (defArgs s_join_words) (defBody s_join_words) (defScope s_join_words) .none kV_join_words dc_join_words pm_join_words an_join_words cd_join_words ct_join_words), sl_join_words⟩)
    (cc_join_words : PySem.W.codeIn K cd_join_words "join_words" = true)
    (k_join_words : PySem.W.keepIn K (.ref f_join_words) = true)
    (a_run_text : PySem.W.nsIn K mainGlobals "run_text" = some (some (.ref f_run_text)))
    (l_run_text : K.lookup f_run_text = some ⟨oc_run_text, od_run_text, .func (PySem.W.fnOf "run_text" "run_text" (defArgs s_run_text) (defBody s_run_text) (defScope s_run_text) .none kV_run_text dc_run_text pm_run_text an_run_text cd_run_text ct_run_text), sl_run_text⟩)
    (cc_run_text : PySem.W.codeIn K cd_run_text "run_text" = true)
    (k_run_text : PySem.W.keepIn K (.ref f_run_text) = true)
    (a_law : PySem.W.nsIn K mainGlobals "law" = some (some (.ref f_law)))
    (l_law : K.lookup f_law = some ⟨oc_law, od_law, .func (PySem.W.fnOf "law" "law" (defArgs s_law) (defBody s_law) (defScope s_law) .none kV_law dc_law pm_law an_law cd_law ct_law), sl_law⟩)
    (cc_law : PySem.W.codeIn K cd_law "law" = true)
    (k_law : PySem.W.keepIn K (.ref f_law) = true)
    (pure : ∀ ns : List Int, ns.length ≤ 63 → (∀ z ∈ ns, Builtin.Int.intBits z ≤ 1048576) → ∃ l, c_law [.scr ns] = .ok (.bl true) l) :
    ∃ fd : FuncData, (∀ (s : Shared) (v : Value), BindsTo s fd ⟨[v], []⟩ [("script", v)]) ∧ ∀ base : Heap, K.In base → base.Ns mainGlobals mg → FnOk P w K mg base (L2.CX P w) 9 fa fd ["script"] (spEnd K) := by
  have e := hfa.symm.trans (PySem.W.mg_of X G a_law)
  cases e
  have B_ValueError := PySem.W.mg_none_of X G z_ValueError
  have B_abs := PySem.W.mg_none_of X G z_abs
  have B_all := PySem.W.mg_none_of X G z_all
  have B_bool := PySem.W.mg_none_of X G z_bool
  have B_enumerate := PySem.W.mg_none_of X G z_enumerate
  have B_int := PySem.W.mg_none_of X G z_int
  have B_isinstance := PySem.W.mg_none_of X G z_isinstance
  have B_len := PySem.W.mg_none_of X G z_len
  have B_list := PySem.W.mg_none_of X G z_list
  have B_range := PySem.W.mg_none_of X G z_range
  have B_str := PySem.W.mg_none_of X G z_str
  have B_tuple := PySem.W.mg_none_of X G z_tuple
  have G_FullhandsError := PySem.W.mg_of X G a_FullhandsError
  have G_BadTable := PySem.W.mg_of X G a_BadTable
  have G_BadText := PySem.W.mg_of X G a_BadText
  have G_BadStanding := PySem.W.mg_of X G a_BadStanding
  have G_CannotMove := PySem.W.mg_of X G a_CannotMove
  have G_NoSuch := PySem.W.mg_of X G a_NoSuch
  have G_WrongGround := PySem.W.mg_of X G a_WrongGround
  have G_TooGreat := PySem.W.mg_of X G a_TooGreat
  have G_BadVector := PySem.W.mg_of X G a_BadVector
  have G_NotLocal := PySem.W.mg_of X G a_NotLocal
  have G_BadProgram := PySem.W.mg_of X G a_BadProgram
  have G_InUse := PySem.W.mg_of X G a_InUse
  have G_AttemptFailed := PySem.W.mg_of X G a_AttemptFailed
  have G_BadLot := PySem.W.mg_of X G a_BadLot
  have G_BadDealing := PySem.W.mg_of X G a_BadDealing
  have G_NotCore := PySem.W.mg_of X G a_NotCore
  have G_BadLoads := PySem.W.mg_of X G a_BadLoads
  have G_Impossible := PySem.W.mg_of X G a_Impossible
  have G_BadLine := PySem.W.mg_of X G a_BadLine
  have G_NothingToUndo := PySem.W.mg_of X G a_NothingToUndo
  have G_NothingToRedo := PySem.W.mg_of X G a_NothingToRedo
  have F_init_BadText := fun_mk (st := s_init_BadText) l_init_BadText cc_init_BadText k_init_BadText
  have R_ValueError : KitRow K (clC [C_FullhandsError, C_BadTable, C_BadText, C_BadStanding, C_CannotMove, C_NoSuch, C_WrongGround, C_TooGreat, C_BadVector, C_NotLocal, C_BadProgram, C_InUse, C_AttemptFailed, C_BadLot, C_BadDealing, C_NotCore, C_BadLoads, C_Impossible, C_BadLine, C_NothingToUndo, C_NothingToRedo] [(f_FORMS, K_FORMS)]) (.type "ValueError") row_ValueError := kitRow_ok r_ValueError
  have R_BadText : KitRow K (clC [C_FullhandsError, C_BadTable, C_BadText, C_BadStanding, C_CannotMove, C_NoSuch, C_WrongGround, C_TooGreat, C_BadVector, C_NotLocal, C_BadProgram, C_InUse, C_AttemptFailed, C_BadLot, C_BadDealing, C_NotCore, C_BadLoads, C_Impossible, C_BadLine, C_NothingToUndo, C_NothingToRedo] [(f_FORMS, K_FORMS)]) (.ref C_BadText) row_BadText := kitRow_ok r_BadText
  have M_BadText : ExmRow K (clC [C_FullhandsError, C_BadTable, C_BadText, C_BadStanding, C_CannotMove, C_NoSuch, C_WrongGround, C_TooGreat, C_BadVector, C_NotLocal, C_BadProgram, C_InUse, C_AttemptFailed, C_BadLot, C_BadDealing, C_NotCore, C_BadLoads, C_Impossible, C_BadLine, C_NothingToUndo, C_NothingToRedo] [(f_FORMS, K_FORMS)]) (.ref C_BadText) row_BadText := exmRow_ok m_BadText
  have M_FullhandsError : ExmRow K (clC [C_FullhandsError, C_BadTable, C_BadText, C_BadStanding, C_CannotMove, C_NoSuch, C_WrongGround, C_TooGreat, C_BadVector, C_NotLocal, C_BadProgram, C_InUse, C_AttemptFailed, C_BadLot, C_BadDealing, C_NotCore, C_BadLoads, C_Impossible, C_BadLine, C_NothingToUndo, C_NothingToRedo] [(f_FORMS, K_FORMS)]) (.ref C_FullhandsError) row_FullhandsError := exmRow_ok m_FullhandsError
  have RT_Attled_Bading_Badine_Badads_BadLot_Badram_Bading_Badble_Badtor_Canove_Impble_InUUse_NoSuch_Notore_Notcal_Notedo_Notndo_Tooeat_Wround : KitRowT K (clC [C_FullhandsError, C_BadTable, C_BadText, C_BadStanding, C_CannotMove, C_NoSuch, C_WrongGround, C_TooGreat, C_BadVector, C_NotLocal, C_BadProgram, C_InUse, C_AttemptFailed, C_BadLot, C_BadDealing, C_NotCore, C_BadLoads, C_Impossible, C_BadLine, C_NothingToUndo, C_NothingToRedo] [(f_FORMS, K_FORMS)]) [C_AttemptFailed, C_BadDealing, C_BadLine, C_BadLoads, C_BadLot, C_BadProgram, C_BadStanding, C_BadTable, C_BadVector, C_CannotMove, C_Impossible, C_InUse, C_NoSuch, C_NotCore, C_NotLocal, C_NothingToRedo, C_NothingToUndo, C_TooGreat, C_WrongGround] rowT_Attled_Bading_Badine_Badads_BadLot_Badram_Bading_Badble_Badtor_Canove_Impble_InUUse_NoSuch_Notore_Notcal_Notedo_Notndo_Tooeat_Wround := kitRowT_ok rT_Attled_Bading_Badine_Badads_BadLot_Badram_Bading_Badble_Badtor_Canove_Impble_InUUse_NoSuch_Notore_Notcal_Notedo_Notndo_Tooeat_Wround
  have H_FORMS : ConH mg (clC [C_FullhandsError, C_BadTable, C_BadText, C_BadStanding, C_CannotMove, C_NoSuch, C_WrongGround, C_TooGreat, C_BadVector, C_NotLocal, C_BadProgram, C_InUse, C_AttemptFailed, C_BadLot, C_BadDealing, C_NotCore, C_BadLoads, C_Impossible, C_BadLine, C_NothingToUndo, C_NothingToRedo] [(f_FORMS, K_FORMS)]) "FORMS" K_FORMS := ⟨f_FORMS, PySem.W.mg_of X G a_FORMS, if_pos rfl⟩
  have nh : ∀ a, ((clC [C_FullhandsError, C_BadTable, C_BadText, C_BadStanding, C_CannotMove, C_NoSuch, C_WrongGround, C_TooGreat, C_BadVector, C_NotLocal, C_BadProgram, C_InUse, C_AttemptFailed, C_BadLot, C_BadDealing, C_NotCore, C_BadLoads, C_Impossible, C_BadLine, C_NothingToUndo, C_NothingToRedo] [(f_FORMS, K_FORMS)])).han a = none := fun _ => rfl
  have ci : ConIn K w (clC [C_FullhandsError, C_BadTable, C_BadText, C_BadStanding, C_CannotMove, C_NoSuch, C_WrongGround, C_TooGreat, C_BadVector, C_NotLocal, C_BadProgram, C_InUse, C_AttemptFailed, C_BadLot, C_BadDealing, C_NotCore, C_BadLoads, C_Impossible, C_BadLine, C_NothingToUndo, C_NothingToRedo] [(f_FORMS, K_FORMS)]) := conIn_of (l := [(f_FORMS, K_FORMS)]) rfl (fun p hp => by
    simp only [List.mem_cons, List.not_mem_nil, or_false] at hp
    rcases hp with rfl
    · exact ⟨_, dw_FORMS, dv_FORMS⟩)
  have X_line : ∀ c ∈ [(2 : Nat)], ∃ C, (clC [C_FullhandsError, C_BadTable, C_BadText, C_BadStanding, C_CannotMove, C_NoSuch, C_WrongGround, C_TooGreat, C_BadVector, C_NotLocal, C_BadProgram, C_InUse, C_AttemptFailed, C_BadLot, C_BadDealing, C_NotCore, C_BadLoads, C_Impossible, C_BadLine, C_NothingToUndo, C_NothingToRedo] [(f_FORMS, K_FORMS)]) c = some C ∧ ExcC K C ∧ PySem.W.findIn K (.ref C) "line" = some none := by
    intro c hc
    simp only [List.mem_cons, List.not_mem_nil, or_false] at hc
    rcases hc with rfl
    · exact ⟨C_BadText, rfl, (oexB_ok o_BadText).2, noAttB_ok n_BadText "line" (by decide)⟩
  have F_law_mixed := fun_mk (st := s_law_mixed) l_law_mixed cc_law_mixed k_law_mixed
  have b_law_mixed := F_law_mixed.binds (ps := ["number", "turn"]) (fun _ _ _ _ _ _ us hl => match us, hl with | [_, _], _ => rfl)
  have F_law_pool := fun_mk (st := s_law_pool) l_law_pool cc_law_pool k_law_pool
  have b_law_pool := F_law_pool.binds (ps := ["script", "many"]) (fun _ _ _ _ _ _ us hl => match us, hl with | [_, _], _ => rfl)
  have F_law_moves := fun_mk (st := s_law_moves) l_law_moves cc_law_moves k_law_moves
  have b_law_moves := F_law_moves.binds (ps := ["pool", "start", "many"]) (fun _ _ _ _ _ _ us hl => match us, hl with | [_, _, _], _ => rfl)
  have F_law_joined_rows := fun_mk (st := s_law_joined_rows) l_law_joined_rows cc_law_joined_rows k_law_joined_rows
  have b_law_joined_rows := F_law_joined_rows.binds (ps := ["rows"]) (fun _ _ _ _ _ _ us hl => match us, hl with | [_], _ => rfl)
  have F_is_number := fun_mk (st := s_is_number) l_is_number cc_is_number k_is_number
  have b_is_number := F_is_number.binds (ps := ["word"]) (fun _ _ _ _ _ _ us hl => match us, hl with | [_], _ => rfl)
  have F_read_numbers := fun_mk (st := s_read_numbers) l_read_numbers cc_read_numbers k_read_numbers
  have b_read_numbers := F_read_numbers.binds (ps := ["words"]) (fun _ _ _ _ _ _ us hl => match us, hl with | [_], _ => rfl)
  have F_read_move := fun_mk (st := s_read_move) l_read_move cc_read_move k_read_move
  have b_read_move := F_read_move.binds (ps := ["line"]) (fun _ _ _ _ _ _ us hl => match us, hl with | [_], _ => rfl)
  have F_read_run := fun_mk (st := s_read_run) l_read_run cc_read_run k_read_run
  have b_read_run := F_read_run.binds (ps := ["text"]) (fun _ _ _ _ _ _ us hl => match us, hl with | [_], _ => rfl)
  have F_law_same := fun_mk (st := s_law_same) l_law_same cc_law_same k_law_same
  have b_law_same := F_law_same.binds (ps := ["actual", "due"]) (fun _ _ _ _ _ _ us hl => match us, hl with | [_, _], _ => rfl)
  have F_law_bad_words := fun_mk (st := s_law_bad_words) l_law_bad_words cc_law_bad_words k_law_bad_words
  have b_law_bad_words := F_law_bad_words.binds (ps := ["words", "pool", "start"]) (fun _ _ _ _ _ _ us hl => match us, hl with | [_, _, _], _ => rfl)
  have F_law_changed := fun_mk (st := s_law_changed) l_law_changed cc_law_changed k_law_changed
  have b_law_changed := F_law_changed.binds (ps := ["rows", "pool", "start"]) (fun _ _ _ _ _ _ us hl => match us, hl with | [_, _, _], _ => rfl)
  have F_law_read := fun_mk (st := s_law_read) l_law_read cc_law_read k_law_read
  have b_law_read := F_law_read.binds (ps := ["text"]) (fun _ _ _ _ _ _ us hl => match us, hl with | [_], _ => rfl)
  have F_law_words := fun_mk (st := s_law_words) l_law_words cc_law_words k_law_words
  have b_law_words := F_law_words.binds (ps := ["move"]) (fun _ _ _ _ _ _ us hl => match us, hl with | [_], _ => rfl)
  have F_law_pure := fun_mk (st := s_law_pure) l_law_pure cc_law_pure k_law_pure
  have b_law_pure := F_law_pure.binds (ps := ["text"]) (fun _ _ _ _ _ _ us hl => match us, hl with | [_], _ => rfl)
  have F_join_words := fun_mk (st := s_join_words) l_join_words cc_join_words k_join_words
  have b_join_words := F_join_words.binds (ps := ["words"]) (fun _ _ _ _ _ _ us hl => match us, hl with | [_], _ => rfl)
  have F_run_text := fun_mk (st := s_run_text) l_run_text cc_run_text k_run_text
  have b_run_text := F_run_text.binds (ps := ["run"]) (fun _ _ _ _ _ _ us hl => match us, hl with | [_], _ => rfl)
  have F_law := fun_mk (st := s_law) l_law cc_law k_law
  have b_law := F_law.binds (ps := ["script"]) (fun _ _ _ _ _ _ us hl => match us, hl with | [_], _ => rfl)
  refine ⟨PySem.W.fnOf "law" "law" (defArgs s_law) (defBody s_law) (defScope s_law) .none kV_law dc_law pm_law an_law cd_law ct_law, fun s v => .of_eq rfl, fun base _ _ => ?_⟩
  have E_BadText : ErrI P w K mg base (clC [C_FullhandsError, C_BadTable, C_BadText, C_BadStanding, C_CannotMove, C_NoSuch, C_WrongGround, C_TooGreat, C_BadVector, C_NotLocal, C_BadProgram, C_InUse, C_AttemptFailed, C_BadLot, C_BadDealing, C_NotCore, C_BadLoads, C_Impossible, C_BadLine, C_NothingToUndo, C_NothingToRedo] [(f_FORMS, K_FORMS)]) 2 "BadText" ["line"] := ⟨C_BadText, fi_BadText, _, rfl, G_BadText, (oexB_ok o_BadText).1, (oexB_ok o_BadText).2, i_BadText, t_BadText, F_init_BadText.binds (ps := ["self", "line"]) (fun _ _ _ _ _ _ us hl => match us, hl with | [_, _], _ => rfl), noAttB_ok n_BadText, ok_init_BadText F_init_BadText (oexB_ok o_BadText).1 (noAttB_ok n_BadText)⟩
  have H_law_mixed : FnH P w K mg base (clC [C_FullhandsError, C_BadTable, C_BadText, C_BadStanding, C_CannotMove, C_NoSuch, C_WrongGround, C_TooGreat, C_BadVector, C_NotLocal, C_BadProgram, C_InUse, C_AttemptFailed, C_BadLot, C_BadDealing, C_NotCore, C_BadLoads, C_Impossible, C_BadLine, C_NothingToUndo, C_NothingToRedo] [(f_FORMS, K_FORMS)]) 1 2 "_law_mixed" ["number", "turn"] c_law_mixed := fnH_mk (PySem.W.mg_of X G a_law_mixed) k_law_mixed b_law_mixed (ok_law_mixed F_law_mixed B_int)
  have H_law_pool : FnH P w K mg base (clC [C_FullhandsError, C_BadTable, C_BadText, C_BadStanding, C_CannotMove, C_NoSuch, C_WrongGround, C_TooGreat, C_BadVector, C_NotLocal, C_BadProgram, C_InUse, C_AttemptFailed, C_BadLot, C_BadDealing, C_NotCore, C_BadLoads, C_Impossible, C_BadLine, C_NothingToUndo, C_NothingToRedo] [(f_FORMS, K_FORMS)]) 2 2 "_law_pool" ["script", "many"] c_law_pool := fnH_mk (PySem.W.mg_of X G a_law_pool) k_law_pool b_law_pool (ok_law_pool F_law_pool B_abs B_int B_len B_range H_law_mixed)
  have H_law_moves : FnH P w K mg base (clC [C_FullhandsError, C_BadTable, C_BadText, C_BadStanding, C_CannotMove, C_NoSuch, C_WrongGround, C_TooGreat, C_BadVector, C_NotLocal, C_BadProgram, C_InUse, C_AttemptFailed, C_BadLot, C_BadDealing, C_NotCore, C_BadLoads, C_Impossible, C_BadLine, C_NothingToUndo, C_NothingToRedo] [(f_FORMS, K_FORMS)]) 1 3 "_law_moves" ["pool", "start", "many"] c_law_moves := fnH_mk (PySem.W.mg_of X G a_law_moves) k_law_moves b_law_moves (ok_law_moves F_law_moves B_int B_range)
  have H_law_joined_rows : FnH P w K mg base (clC [C_FullhandsError, C_BadTable, C_BadText, C_BadStanding, C_CannotMove, C_NoSuch, C_WrongGround, C_TooGreat, C_BadVector, C_NotLocal, C_BadProgram, C_InUse, C_AttemptFailed, C_BadLot, C_BadDealing, C_NotCore, C_BadLoads, C_Impossible, C_BadLine, C_NothingToUndo, C_NothingToRedo] [(f_FORMS, K_FORMS)]) 1 1 "_law_joined_rows" ["rows"] c_law_joined_rows := fnH_mk (PySem.W.mg_of X G a_law_joined_rows) k_law_joined_rows b_law_joined_rows (ok_law_joined_rows F_law_joined_rows B_len B_range)
  have H_is_number : FnH P w K mg base (clC [C_FullhandsError, C_BadTable, C_BadText, C_BadStanding, C_CannotMove, C_NoSuch, C_WrongGround, C_TooGreat, C_BadVector, C_NotLocal, C_BadProgram, C_InUse, C_AttemptFailed, C_BadLot, C_BadDealing, C_NotCore, C_BadLoads, C_Impossible, C_BadLine, C_NothingToUndo, C_NothingToRedo] [(f_FORMS, K_FORMS)]) 1 1 "is_number" ["word"] c_is_number := fnH_mk (PySem.W.mg_of X G a_is_number) k_is_number b_is_number (ok_is_number F_is_number B_len)
  have H_read_numbers : FnH P w K mg base (clC [C_FullhandsError, C_BadTable, C_BadText, C_BadStanding, C_CannotMove, C_NoSuch, C_WrongGround, C_TooGreat, C_BadVector, C_NotLocal, C_BadProgram, C_InUse, C_AttemptFailed, C_BadLot, C_BadDealing, C_NotCore, C_BadLoads, C_Impossible, C_BadLine, C_NothingToUndo, C_NothingToRedo] [(f_FORMS, K_FORMS)]) 2 1 "read_numbers" ["words"] c_read_numbers := fnH_mk (PySem.W.mg_of X G a_read_numbers) k_read_numbers b_read_numbers (ok_read_numbers F_read_numbers B_all B_int H_is_number)
  have H_read_move : FnH P w K mg base (clC [C_FullhandsError, C_BadTable, C_BadText, C_BadStanding, C_CannotMove, C_NoSuch, C_WrongGround, C_TooGreat, C_BadVector, C_NotLocal, C_BadProgram, C_InUse, C_AttemptFailed, C_BadLot, C_BadDealing, C_NotCore, C_BadLoads, C_Impossible, C_BadLine, C_NothingToUndo, C_NothingToRedo] [(f_FORMS, K_FORMS)]) 3 1 "read_move" ["line"] c_read_move := fnH_mk (PySem.W.mg_of X G a_read_move) k_read_move b_read_move (ok_read_move F_read_move B_len B_tuple ci H_FORMS H_read_numbers)
  have H_read_run : FnH P w K mg base (clC [C_FullhandsError, C_BadTable, C_BadText, C_BadStanding, C_CannotMove, C_NoSuch, C_WrongGround, C_TooGreat, C_BadVector, C_NotLocal, C_BadProgram, C_InUse, C_AttemptFailed, C_BadLot, C_BadDealing, C_NotCore, C_BadLoads, C_Impossible, C_BadLine, C_NothingToUndo, C_NothingToRedo] [(f_FORMS, K_FORMS)]) 4 1 "read_run" ["text"] c_read_run := fnH_mk (PySem.W.mg_of X G a_read_run) k_read_run b_read_run (ok_read_run F_read_run B_enumerate E_BadText H_read_move)
  have H_law_same : FnH P w K mg base (clC [C_FullhandsError, C_BadTable, C_BadText, C_BadStanding, C_CannotMove, C_NoSuch, C_WrongGround, C_TooGreat, C_BadVector, C_NotLocal, C_BadProgram, C_InUse, C_AttemptFailed, C_BadLot, C_BadDealing, C_NotCore, C_BadLoads, C_Impossible, C_BadLine, C_NothingToUndo, C_NothingToRedo] [(f_FORMS, K_FORMS)]) 8 2 "_law_same" ["actual", "due"] (c_law_same 8) := fnH_mk (PySem.W.mg_of X G a_law_same) k_law_same b_law_same (ok_law_same F_law_same B_bool B_int B_isinstance B_len B_list B_range B_str B_tuple (PySem.W.mg_of X G a_law_same) b_law_same 8)
  have H_law_bad_words : FnH P w K mg base (clC [C_FullhandsError, C_BadTable, C_BadText, C_BadStanding, C_CannotMove, C_NoSuch, C_WrongGround, C_TooGreat, C_BadVector, C_NotLocal, C_BadProgram, C_InUse, C_AttemptFailed, C_BadLot, C_BadDealing, C_NotCore, C_BadLoads, C_Impossible, C_BadLine, C_NothingToUndo, C_NothingToRedo] [(f_FORMS, K_FORMS)]) 1 3 "_law_bad_words" ["words", "pool", "start"] c_law_bad_words := fnH_mk (PySem.W.mg_of X G a_law_bad_words) k_law_bad_words b_law_bad_words (ok_law_bad_words F_law_bad_words B_int B_len B_str)
  have H_law_changed : FnH P w K mg base (clC [C_FullhandsError, C_BadTable, C_BadText, C_BadStanding, C_CannotMove, C_NoSuch, C_WrongGround, C_TooGreat, C_BadVector, C_NotLocal, C_BadProgram, C_InUse, C_AttemptFailed, C_BadLot, C_BadDealing, C_NotCore, C_BadLoads, C_Impossible, C_BadLine, C_NothingToUndo, C_NothingToRedo] [(f_FORMS, K_FORMS)]) 2 3 "_law_changed" ["rows", "pool", "start"] c_law_changed := fnH_mk (PySem.W.mg_of X G a_law_changed) k_law_changed b_law_changed (ok_law_changed F_law_changed B_int B_len B_range H_law_bad_words)
  have H_law_read : FnH P w K mg base (clC [C_FullhandsError, C_BadTable, C_BadText, C_BadStanding, C_CannotMove, C_NoSuch, C_WrongGround, C_TooGreat, C_BadVector, C_NotLocal, C_BadProgram, C_InUse, C_AttemptFailed, C_BadLot, C_BadDealing, C_NotCore, C_BadLoads, C_Impossible, C_BadLine, C_NothingToUndo, C_NothingToRedo] [(f_FORMS, K_FORMS)]) 5 1 "_law_read" ["text"] c_law_read := fnH_mk (PySem.W.mg_of X G a_law_read) k_law_read b_law_read (ok_law_read F_law_read G_BadText M_BadText nh X_line H_read_run)
  have H_law_words : FnH P w K mg base (clC [C_FullhandsError, C_BadTable, C_BadText, C_BadStanding, C_CannotMove, C_NoSuch, C_WrongGround, C_TooGreat, C_BadVector, C_NotLocal, C_BadProgram, C_InUse, C_AttemptFailed, C_BadLot, C_BadDealing, C_NotCore, C_BadLoads, C_Impossible, C_BadLine, C_NothingToUndo, C_NothingToRedo] [(f_FORMS, K_FORMS)]) 1 1 "_law_words" ["move"] c_law_words := fnH_mk (PySem.W.mg_of X G a_law_words) k_law_words b_law_words (ok_law_words F_law_words B_str)
  have H_law_pure : FnH P w K mg base (clC [C_FullhandsError, C_BadTable, C_BadText, C_BadStanding, C_CannotMove, C_NoSuch, C_WrongGround, C_TooGreat, C_BadVector, C_NotLocal, C_BadProgram, C_InUse, C_AttemptFailed, C_BadLot, C_BadDealing, C_NotCore, C_BadLoads, C_Impossible, C_BadLine, C_NothingToUndo, C_NothingToRedo] [(f_FORMS, K_FORMS)]) 5 1 "_law_pure" ["text"] c_law_pure := fnH_mk (PySem.W.mg_of X G a_law_pure) k_law_pure b_law_pure (ok_law_pure F_law_pure B_ValueError B_isinstance G_FullhandsError G_BadText G_AttemptFailed G_BadDealing G_BadLine G_BadLoads G_BadLot G_BadProgram G_BadStanding G_BadTable G_BadVector G_CannotMove G_Impossible G_InUse G_NoSuch G_NotCore G_NotLocal G_NothingToRedo G_NothingToUndo G_TooGreat G_WrongGround R_ValueError R_BadText M_FullhandsError RT_Attled_Bading_Badine_Badads_BadLot_Badram_Bading_Badble_Badtor_Canove_Impble_InUUse_NoSuch_Notore_Notcal_Notedo_Notndo_Tooeat_Wround nh H_read_run)
  have H_join_words : FnH P w K mg base (clC [C_FullhandsError, C_BadTable, C_BadText, C_BadStanding, C_CannotMove, C_NoSuch, C_WrongGround, C_TooGreat, C_BadVector, C_NotLocal, C_BadProgram, C_InUse, C_AttemptFailed, C_BadLot, C_BadDealing, C_NotCore, C_BadLoads, C_Impossible, C_BadLine, C_NothingToUndo, C_NothingToRedo] [(f_FORMS, K_FORMS)]) 1 1 "join_words" ["words"] c_join_words := fnH_mk (PySem.W.mg_of X G a_join_words) k_join_words b_join_words (ok_join_words F_join_words B_str)
  have H_run_text : FnH P w K mg base (clC [C_FullhandsError, C_BadTable, C_BadText, C_BadStanding, C_CannotMove, C_NoSuch, C_WrongGround, C_TooGreat, C_BadVector, C_NotLocal, C_BadProgram, C_InUse, C_AttemptFailed, C_BadLot, C_BadDealing, C_NotCore, C_BadLoads, C_Impossible, C_BadLine, C_NothingToUndo, C_NothingToRedo] [(f_FORMS, K_FORMS)]) 2 1 "run_text" ["run"] c_run_text := fnH_mk (PySem.W.mg_of X G a_run_text) k_run_text b_run_text (ok_run_text F_run_text H_join_words)
  exact fn_end (ok_law F_law B_int B_len B_list B_range B_tuple H_law_pool H_law_moves H_law_words H_law_joined_rows H_run_text H_law_same H_read_run H_law_changed H_law_read H_law_pure) pure
end VL

namespace VL
open PySem
theorem eqD_int (a b : Int) : eqD (.int a) (.int b) = some (decide (a = b)) := by
  simp [eqD, toPy, SeqAt.shaped, PyData.eqv, PyData.canLay0, PyData.depth]
  exact Bool.eq_iff_iff.mpr (by simp)
theorem eqD_str {a b : Str} (ha : PyData.strOk a = true) (hb : PyData.strOk b = true) : eqD (.str a) (.str b) = some (decide (a = b)) := by
  simp [eqD, toPy, SeqAt.shaped, PyData.eqv, PyData.canLay0, PyData.depth, ha, hb]
  by_cases h : a = b
  · subst h; simp
  · have : (a == b) = false := by simpa using h
    rw [this]; simp [h]
theorem atI_ok {α : Type} {p : List α} {i : Int} (h : 0 ≤ i) (h2 : i < p.length) : ∃ d, L2.atI p i = some d ∧ d ∈ p := by
  obtain ⟨n, rfl⟩ := Int.eq_ofNat_of_zero_le h
  have hn : n < p.length := by omega
  refine ⟨p[n], ?_, List.getElem_mem hn⟩
  unfold L2.atI L2.ixN
  rw [if_pos h, if_pos h2]
  simp [hn]
/-- a pool: n numbers from 0 to 999 -/
def Pool (n : Nat) (p : List D) : Prop := p.length = n ∧ ∀ d ∈ p, ∃ i : Int, d = .int i ∧ 0 ≤ i ∧ i < 1000
theorem Pool.at_ {n : Nat} {p : List D} (h : Pool n p) {i : Int} (h1 : 0 ≤ i) (h2 : i < n) : ∃ j : Int, L2.atI p i = some (.int j) ∧ 0 ≤ j ∧ j < 1000 := by
  obtain ⟨d, e, hd⟩ := atI_ok (p := p) h1 (by rw [h.1]; exact h2)
  obtain ⟨j, rfl, h3⟩ := h.2 d hd
  exact ⟨j, e, h3⟩
theorem seq_nx {f g : VS} {env e : Ev} {r : Rs} (h : f env = .nx e) (h2 : g e = r) : vSeq f g env = r := by unfold vSeq; rw [h]; exact h2
theorem seq_ret {f g : VS} {env : Ev} {d : D} {l : Nat} (h : f env = .ret d l) : vSeq f g env = .ret d l := by unfold vSeq; rw [h]
theorem def_ret {N : Nat} {body : VS} {ds : List D} {d : D} {l : Nat} (h : body (env0 N ds) = .ret d l) : vDef N body ds = .ok d l := by unfold vDef; rw [h]
theorem for_nx {it : VI} {g : VG} {body : VS} {env e : Ev} {ds : List D} {al : List Nat} (h : it env = some (ds, al)) (h2 : loopV g body ds (frz al env) = .nx e) : vFor it g body env = .nx e := by unfold vFor; rw [h]; exact h2
/-- plain data, at most so deep -/
def pl : Nat → D → Prop
  | 0, _ => False
  | _ + 1, .non => True
  | _ + 1, .bl _ => True
  | _ + 1, .int _ => True
  | _ + 1, .str s => PyData.strOk s = true
  | n + 1, .lst xs => xs.length ≤ 1000000 ∧ ∀ x ∈ xs, pl n x
  | n + 1, .tup xs => xs.length ≤ 1000000 ∧ ∀ x ∈ xs, pl n x
  | _ + 1, _ => False
/-! ### blocks and loops, read for a promise of their end -/
theorem seqP {P : Rs → Prop} {f g : VS} {env e : Ev} (h : f env = .nx e) (h2 : P (g e)) : P (vSeq f g env) := by unfold vSeq; rw [h]; exact h2
theorem seqQ {P : Rs → Prop} {f g : VS} {env : Ev} (h : ∃ e, f env = .nx e ∧ P (g e)) : P (vSeq f g env) := by obtain ⟨e, h, h2⟩ := h; exact seqP h h2
theorem loop_ix {g : VG} {body : VS} (I : Nat → Ev → Prop) : ∀ (ds : List D) (k : Nat), (∀ j d e, ds[j]? = some d → I (k + j) e → ∃ e1, g d e = some e1 ∧ ∃ e2, body e1 = .nx e2 ∧ I (k + j + 1) e2) → ∀ e, I k e → ∃ e', loopV g body ds e = .nx e' ∧ I (k + ds.length) e'
  | [], k, hs, e, h => ⟨e, rfl, h⟩
  | d :: ds, k, hs, e, h => by
    obtain ⟨e1, h1, e2, h2, h3⟩ := hs 0 d e rfl h
    obtain ⟨e', h4, h5⟩ := loop_ix I ds (k + 1) (fun j d e hj hi => by
      have := hs (j + 1) d e (by simpa using hj) (by have : k + (j + 1) = k + 1 + j := by omega
                                                     rw [this]; exact hi)
      have e1 : k + (j + 1) + 1 = k + 1 + j + 1 := by omega
      rw [e1] at this
      exact this) e2 h3
    refine ⟨e', ?_, by have e1 : k + (d :: ds).length = k + 1 + ds.length := by rw [List.length_cons]; omega
                       rw [e1]; exact h5⟩
    rw [loopV, h1]
    dsimp only
    rw [h2]
    exact h4
theorem forI {it : VI} {g : VG} {body : VS} {env : Ev} {ds : List D} {al : List Nat} (I : Nat → Ev → Prop) (h : it env = some (ds, al)) (h0 : I 0 (frz al env))
    (hs : ∀ j d e, ds[j]? = some d → I j e → ∃ e1, g d e = some e1 ∧ ∃ e2, body e1 = .nx e2 ∧ I (j + 1) e2) : ∃ e, vFor it g body env = .nx e ∧ I ds.length e := by
  obtain ⟨e', h1, h2⟩ := loop_ix I ds 0 (fun j d e hj hi => by
    rw [Nat.zero_add] at hi ⊢
    exact hs j d e hj hi) _ h0
  rw [Nat.zero_add] at h2
  exact ⟨e', by unfold vFor; rw [h]; exact h1, h2⟩
theorem ifT {t : VT} {a b : VS} {env : Ev} (h : t env = some true) : vIfS t a b env = a env := by unfold vIfS; rw [h]
theorem ifF {t : VT} {a b : VS} {env : Ev} (h : t env = some false) : vIfS t a b env = b env := by unfold vIfS; rw [h]
theorem upTo_at {c i : Int} {n j : Nat} {d : D} (h : (upTo i c n)[j]? = some d) : j < n ∧ d = .int (i + j * c) := by
  have hl : j < n := by
    have := (List.getElem?_eq_some_iff.mp h).1
    rwa [upTo_length] at this
  rw [upTo_get c n j i hl] at h
  exact ⟨hl, by cases h; rfl⟩
theorem noMutL_ints (ns : List Int) : noMutL (ns.map D.int) = true := noMut_ints ns
theorem toPyL_ints : ∀ ns : List Int, toPyL (ns.map D.int) = some (ns.map PyData.int)
  | [] => rfl
  | n :: ns => by rw [List.map_cons, toPyL, toPy]; dsimp only; rw [toPyL_ints ns]; rfl
theorem eqD_nil (ns : List Int) : eqD (.lst (ns.map D.int)) (.lst []) = some (decide (ns = [])) := by
  unfold eqD
  rw [toPy, toPyL_ints, toPy, toPyL]
  dsimp only
  rw [PySem.W.ke_shaped_ints]
  cases ns with
  | nil => rfl
  | cons n ns => simp [PyData.eqv, PyData.eqvAll, SeqAt.shaped, PyData.canLay0, PyData.canLayAll0, PyData.depth, PyData.depthAll]
/-- a row of numbers from 0 to 999 -/
def Row (d : D) : Prop := ∃ n p, d = .lst p ∧ n ≤ 90 ∧ Pool n p
theorem comp_abs (e0 : Ev) (h : 3 < e0.length) : ∀ cs : List Int, compV (gN 3) (fun _ => some true) (vCall (g1 gAbs) (vCons (vCall (g1 gInt) (vCons (vName 3) (fun _ => some []))) (fun _ => some []))) e0 (cs.map D.int) = some (cs.map fun n => ⟨.int (if n < 0 then -n else n), 2, []⟩)
  | [] => rfl
  | c :: cs => by
    rw [List.map_cons, compV, comp_abs e0 h cs]
    have hg : gN 3 (.int c) e0 = some (e0.set 3 (some (0, .int c))) := by unfold gN; rw [if_pos h]
    rw [hg]
    have : (e0.set 3 (some (0, D.int c)))[3]? = some (some (0, .int c)) := List.getElem?_set_self h
    simp [vCall, vCons, vName, this, nrm, noMut, g1, gInt, gAbs]
theorem rv_all {cs : List Int} {f : Int → Int} {n : Nat} : compRv n (cs.map fun c => ⟨.int (f c), 2, []⟩) = ⟨.lst ((cs.map f).map D.int), 2, []⟩ := by
  unfold compRv
  rw [if_pos (by rw [List.all_eq_true]; intro r hr; obtain ⟨c, _, rfl⟩ := List.mem_map.mp hr; rfl)]
  unfold dsOf
  rw [List.map_map, List.map_map]
  rfl
theorem row_add {n : Nat} {p : List D} (h : Pool n p) {i : Int} (h1 : 0 ≤ i) (h2 : i < 1000) : Pool (n + 1) (p ++ [.int i]) := by
  refine ⟨by rw [List.length_append, h.1]; rfl, fun d hd => ?_⟩
  rcases List.mem_append.mp hd with hd | hd
  · exact h.2 d hd
  · rw [List.mem_singleton] at hd
    exact ⟨i, hd, h1, h2⟩
theorem pool_nil : Pool 0 [] := ⟨rfl, fun d hd => by cases hd⟩
theorem atI_ints {cs : List Int} {i : Int} (h : 0 ≤ i) (h2 : i < cs.length) : ∃ c : Int, L2.atI (cs.map D.int) i = some (.int c) := by
  obtain ⟨d, e, hd⟩ := atI_ok (p := cs.map D.int) h (by rw [List.length_map]; exact h2)
  obtain ⟨c, _, rfl⟩ := List.mem_map.mp hd
  exact ⟨c, e⟩
end VL

namespace VL
open PySem

/-! ### blocks read for what stands at their end -/
/-- the block ends as P says -/
def En (r : Rs) (P : Rs → Prop) : Prop := P r
section
variable {P : Rs → Prop} {f g h : VS} {env e : Ev}
theorem En.seq (a : f env = .nx e) (k : En (g e) P) : En (vSeq f g env) P := by unfold En vSeq; rw [a]; exact k
/-- a block within -/
theorem En.seqE {Q : Ev → Prop} (a : En (f env) fun r => ∃ e, r = .nx e ∧ Q e) (k : ∀ e, Q e → En (g e) P) : En (vSeq f g env) P := by
  obtain ⟨e, h1, h2⟩ := a
  exact En.seq h1 (k e h2)
theorem En.nx (a : f env = .nx e) (k : P (.nx e)) : En (f env) P := by unfold En; rw [a]; exact k
theorem En.is {r : Rs} (a : f env = r) (k : P r) : En (f env) P := by unfold En; rw [a]; exact k
theorem En.mono {P Q : Rs → Prop} {r : Rs} (a : En r P) (k : ∀ r, P r → Q r) : En r Q := k _ a
theorem En.ifS {t : VT} (b : Bool) (a : t env = some b) (k1 : b = true → En (f env) P) (k2 : b = false → En (g env) P) : En (vIfS t f g env) P := by
  unfold En vIfS; rw [a]
  cases b with
  | true => exact k1 rfl
  | false => exact k2 rfl
theorem En.ifT {t : VT} (a : t env = some true) (k : En (f env) P) : En (vIfS t f g env) P := .ifS true a (fun _ => k) (fun z => by cases z)
theorem En.ifF {t : VT} (a : t env = some false) (k : En (g env) P) : En (vIfS t f g env) P := .ifS false a (fun z => by cases z) fun _ => k
/-- an if that goes on behind itself -/
theorem En.seqIf {t : VT} {Q : Ev → Prop} (b : Bool) (a : t env = some b) (k1 : b = true → En (f env) fun r => ∃ e, r = .nx e ∧ Q e) (k2 : b = false → En (g env) fun r => ∃ e, r = .nx e ∧ Q e) (k : ∀ e, Q e → En (h e) P) : En (vSeq (vIfS t f g) h env) P :=
  .seqE (.ifS b a k1 k2) k
/-- an if whose first branch leaves -/
theorem En.retIf {t : VT} (b : Bool) (a : t env = some b) (k1 : b = true → En (vSeq f h env) P) (k2 : b = false → En (vSeq g h env) P) : En (vSeq (vIfS t f g) h env) P := by
  unfold En vSeq vIfS at *
  rw [a]
  cases b with
  | true => exact k1 rfl
  | false => exact k2 rfl
theorem En.skip (k : En (h env) P) : En (vSeq (fun e => .nx e) h env) P := k
theorem En.seq_ret {d : D} {l : Nat} (a : f env = .ret d l) (k : P (.ret d l)) : En (vSeq f g env) P := by unfold En vSeq; rw [a]; exact k
theorem En.seq_ex {e : Ev} {c : Nat} {fs : List (Str × D)} (a : f env = .ex e c fs) (k : P (.ex e c fs)) : En (vSeq f g env) P := by unfold En vSeq; rw [a]; exact k
theorem En.assoc {r : VS} (k : En (vSeq f (vSeq g r) env) P) : En (vSeq (vSeq f g) r env) P := by
  unfold En vSeq at *
  cases hf : f env <;> rw [hf] at k <;> exact k
/-- a def from its body -/
theorem En.defI {N : Nat} {body : VS} {ds : List D} {Q : D → Nat → Prop} (a : En (body (env0 N ds)) fun r => ∃ d l, r = .ret d l ∧ Q d l) : ∃ d l, vDef N body ds = .ok d l ∧ Q d l := by
  obtain ⟨d, l, h1, h2⟩ := a
  exact ⟨d, l, by unfold vDef; rw [h1], h2⟩
/-- a loop with an invariant of the number of turns -/
theorem En.forI {it : VI} {tg : VG} {body : VS} {ds : List D} {al : List Nat} (I : Nat → Ev → Prop) (a : it env = some (ds, al)) (h0 : I 0 (frz al env))
    (hs : ∀ j d e, ds[j]? = some d → I j e → ∃ e1, tg d e = some e1 ∧ En (body e1) fun r => ∃ e2, r = .nx e2 ∧ I (j + 1) e2) (k : ∀ e, I ds.length e → En (g e) P) : En (vSeq (vFor it tg body) g env) P := by
  obtain ⟨e, h1, h2⟩ := VL.forI I a h0 hs
  exact .seq h1 (k e h2)
theorem En.for_ {it : VI} {tg : VG} {body : VS} {ds : List D} {al : List Nat} {Q : Ev → Prop} (I : Nat → Ev → Prop) (a : it env = some (ds, al)) (h0 : I 0 (frz al env))
    (hs : ∀ j d e, ds[j]? = some d → I j e → ∃ e1, tg d e = some e1 ∧ En (body e1) fun r => ∃ e2, r = .nx e2 ∧ I (j + 1) e2) (k : ∀ e, I ds.length e → Q e) : En (vFor it tg body env) fun r => ∃ e, r = .nx e ∧ Q e := by
  obtain ⟨e, h1, h2⟩ := VL.forI I a h0 hs
  exact ⟨e, h1, k e h2⟩
end

/-! ### comprehensions -/
theorem compV_map {g : VG} {tt : VT} {fe : VE} {e0 : Ev} {r : D → Rv} : ∀ {ds : List D}, (∀ d ∈ ds, ∃ e1, g d e0 = some e1 ∧ tt e1 = some true ∧ fe e1 = some (r d)) → compV g tt fe e0 ds = some (ds.map r)
  | [], _ => rfl
  | d :: ds, h => by
    obtain ⟨e1, h1, h2, h3⟩ := h d List.mem_cons_self
    rw [compV, h1]; dsimp only
    rw [h2]; dsimp only
    rw [h3]; dsimp only
    rw [compV_map fun d hd => h d (List.mem_cons_of_mem _ hd)]
    rfl
theorem compV_filter {g : VG} {tt : VT} {fe : VE} {e0 : Ev} {p : D → Bool} {r : D → Rv} : ∀ {ds : List D}, (∀ d ∈ ds, ∃ e1, g d e0 = some e1 ∧ tt e1 = some (p d) ∧ (p d = true → fe e1 = some (r d))) → compV g tt fe e0 ds = some ((ds.filter p).map r)
  | [], _ => rfl
  | d :: ds, h => by
    obtain ⟨e1, h1, h2, h3⟩ := h d List.mem_cons_self
    have ih := compV_filter (ds := ds) fun d hd => h d (List.mem_cons_of_mem _ hd)
    rw [compV, h1]; dsimp only
    rw [h2]
    cases hp : p d with
    | true => dsimp only; rw [h3 hp]; dsimp only; rw [ih]; rw [List.filter_cons_of_pos hp]; rfl
    | false => dsimp only; rw [ih, List.filter_cons_of_neg (by rw [hp]; exact Bool.false_ne_true)]
theorem comp_map {it : VI} {vs : List Nat} {g : VG} {tt : VT} {fe : VE} {env : Ev} {ds : List D} {al : List Nat} (r : D → Rv) (a : it env = some (ds, al)) (h : ∀ d ∈ ds, ∃ e1, g d (frz al (wipeE env vs)) = some e1 ∧ tt e1 = some true ∧ fe e1 = some (r d)) :
    vComp it vs g tt fe env = some (compRv env.length (ds.map r)) := by
  unfold vComp; rw [a]; dsimp only; rw [compV_map h]
theorem comp_filter {it : VI} {vs : List Nat} {g : VG} {tt : VT} {fe : VE} {env : Ev} {ds : List D} {al : List Nat} (p : D → Bool) (r : D → Rv) (a : it env = some (ds, al)) (h : ∀ d ∈ ds, ∃ e1, g d (frz al (wipeE env vs)) = some e1 ∧ tt e1 = some (p d) ∧ (p d = true → fe e1 = some (r d))) :
    vComp it vs g tt fe env = some (compRv env.length ((ds.filter p).map r)) := by
  unfold vComp; rw [a]; dsimp only; rw [compV_filter h]
/-- of pure things -/
theorem compRv_pure {n : Nat} {rs : List Rv} (h : ∀ r ∈ rs, noMut r.d = true) : compRv n rs = ⟨.lst (dsOf rs), 2, []⟩ := by
  unfold compRv
  rw [if_pos (List.all_eq_true.mpr fun r hr => by unfold gridChild; rw [h r hr]; rfl)]
theorem noMutL_iff {ds : List D} : noMutL ds = true ↔ ∀ d ∈ ds, noMut d = true := ⟨noMutL_mem, noMutL_of⟩
end VL

namespace VL
open PySem TL

/-! ### lists -/
theorem atI_get {α : Type} {xs : List α} {i : Nat} (h : i < xs.length) : L2.atI xs (i : Int) = some xs[i] := by
  unfold L2.atI L2.ixN
  rw [if_pos (by omega), if_pos (by omega)]
  simp [h]
theorem atI_getI {α : Type} {xs : List α} {i : Int} (h0 : 0 ≤ i) (h : i.toNat < xs.length) : L2.atI xs i = some xs[i.toNat] := by
  have := atI_get (xs := xs) h
  rwa [Int.toNat_of_nonneg h0] at this
theorem atI_zero {α : Type} (x : α) (xs : List α) : L2.atI (x :: xs) 0 = some x := atI_get (xs := x :: xs) (i := 0) (Nat.succ_pos _)
theorem cutD_drop {α : Type} (xs : List α) {i : Int} (h : 0 ≤ i) : cutD xs (some i) none = xs.drop i.toNat := by
  have hn : ¬ i < 0 := by omega
  unfold cutD HT.sIx
  dsimp only
  rw [if_neg hn, List.take_of_length_le (by rw [List.length_drop]; omega)]
  by_cases hl : i.toNat ≤ xs.length
  · rw [Nat.min_eq_left hl]
  · rw [Nat.min_eq_right (by omega), List.drop_length, List.drop_of_length_le (by omega)]
theorem cutD_take {α : Type} (xs : List α) {i : Int} (h : 0 ≤ i) : cutD xs none (some i) = xs.take i.toNat := by
  have hn : ¬ i < 0 := by omega
  unfold cutD HT.sIx
  dsimp only
  rw [if_neg hn, List.drop_zero, Nat.sub_zero]
  by_cases hl : i.toNat ≤ xs.length
  · rw [Nat.min_eq_left hl]
  · rw [Nat.min_eq_right (by omega), List.take_length, List.take_of_length_le (by omega)]
theorem compV_mapX {α : Type} {g : VG} {tt : VT} {fe : VE} {e0 : Ev} (dd : α → D) (rr : α → Rv) : ∀ {xs : List α}, (∀ x ∈ xs, ∃ e1, g (dd x) e0 = some e1 ∧ tt e1 = some true ∧ fe e1 = some (rr x)) → compV g tt fe e0 (xs.map dd) = some (xs.map rr)
  | [], _ => rfl
  | x :: xs, h => by
    obtain ⟨e1, h1, h2, h3⟩ := h x List.mem_cons_self
    rw [List.map_cons, compV, h1]; dsimp only
    rw [h2]; dsimp only
    rw [h3]; dsimp only
    rw [compV_mapX dd rr fun d hd => h d (List.mem_cons_of_mem _ hd)]
    rfl
theorem comp_mapX {α : Type} {it : VI} {vs : List Nat} {g : VG} {tt : VT} {fe : VE} {env : Ev} {al : List Nat} {xs : List α} (dd : α → D) (rr : α → Rv) (a : it env = some (xs.map dd, al)) (h : ∀ x ∈ xs, ∃ e1, g (dd x) (frz al (wipeE env vs)) = some e1 ∧ tt e1 = some true ∧ fe e1 = some (rr x)) :
    vComp it vs g tt fe env = some (compRv env.length (xs.map rr)) := by
  unfold vComp; rw [a]; dsimp only; rw [compV_mapX dd rr h]
theorem compV_filX {α : Type} {g : VG} {tt : VT} {fe : VE} {e0 : Ev} (dd : α → D) (p : α → Bool) (rr : α → Rv) : ∀ {xs : List α}, (∀ x ∈ xs, ∃ e1, g (dd x) e0 = some e1 ∧ tt e1 = some (p x) ∧ (p x = true → fe e1 = some (rr x))) → compV g tt fe e0 (xs.map dd) = some ((xs.filter p).map rr)
  | [], _ => rfl
  | x :: xs, h => by
    obtain ⟨e1, h1, h2, h3⟩ := h x List.mem_cons_self
    have ih := compV_filX dd p rr (xs := xs) fun d hd => h d (List.mem_cons_of_mem _ hd)
    rw [List.map_cons, compV, h1]; dsimp only
    rw [h2]
    cases hp : p x with
    | true => dsimp only; rw [h3 hp]; dsimp only; rw [ih, List.filter_cons_of_pos hp]; rfl
    | false => dsimp only; rw [ih, List.filter_cons_of_neg (by rw [hp]; exact Bool.false_ne_true)]
theorem comp_filX {α : Type} {it : VI} {vs : List Nat} {g : VG} {tt : VT} {fe : VE} {env : Ev} {al : List Nat} {xs : List α} (dd : α → D) (p : α → Bool) (rr : α → Rv) (a : it env = some (xs.map dd, al)) (h : ∀ x ∈ xs, ∃ e1, g (dd x) (frz al (wipeE env vs)) = some e1 ∧ tt e1 = some (p x) ∧ (p x = true → fe e1 = some (rr x))) :
    vComp it vs g tt fe env = some (compRv env.length ((xs.filter p).map rr)) := by
  unfold vComp; rw [a]; dsimp only; rw [compV_filX dd p rr h]
theorem dsOf_map {α : Type} (xs : List α) (f : α → D) (l : Nat) (al : List Nat) : dsOf (xs.map fun x => ⟨f x, l, al⟩) = xs.map f := by
  unfold dsOf; rw [List.map_map]; rfl
theorem compRv_map {α : Type} {n : Nat} {xs : List α} {f : α → D} {l : Nat} {al : List Nat} (h : ∀ x ∈ xs, noMut (f x) = true) : compRv n (xs.map fun x => ⟨f x, l, al⟩) = ⟨.lst (xs.map f), 2, []⟩ := by
  rw [compRv_pure (fun r hr => by obtain ⟨x, hx, rfl⟩ := List.mem_map.mp hr; exact h x hx), dsOf_map]
/-- a loop that leaves at turn k -/
theorem loop_stop {g : VG} {body : VS} (I : Nat → Ev → Prop) {Q : Rs → Prop} : ∀ (ds : List D) (k m : Nat), k < ds.length → (∀ j d e, j < k → ds[j]? = some d → I (m + j) e → ∃ e1, g d e = some e1 ∧ ∃ e2, body e1 = .nx e2 ∧ I (m + j + 1) e2) →
    (∀ d e, ds[k]? = some d → I (m + k) e → ∃ e1, g d e = some e1 ∧ ((∃ v l, body e1 = .ret v l) ∨ ∃ e2 c fs, body e1 = .ex e2 c fs) ∧ Q (body e1)) → ∀ e, I m e → Q (loopV g body ds e)
  | [], k, m, hk, _, _, e, _ => absurd hk (Nat.not_lt_zero _)
  | d :: ds, 0, m, hk, _, hs, e, he => by
    obtain ⟨e1, h1, h2, h3⟩ := hs d e rfl he
    rw [loopV, h1]
    dsimp only
    rcases h2 with ⟨v, l, hb⟩ | ⟨e2, c, fs, hb⟩
    · rw [hb] at h3 ⊢; exact h3
    · rw [hb] at h3 ⊢; exact h3
  | d :: ds, k + 1, m, hk, hi, hs, e, he => by
    obtain ⟨e1, h1, e2, h2, h3⟩ := hi 0 d e (Nat.succ_pos _) rfl he
    rw [loopV, h1]
    dsimp only
    rw [h2]
    dsimp only
    exact loop_stop I ds k (m + 1) (Nat.lt_of_succ_lt_succ hk) (fun j d e hj hd hI => by
      have e3 : m + 1 + j = m + (j + 1) := by omega
      rw [e3] at hI ⊢
      exact hi (j + 1) d e (by omega) (by simpa using hd) hI) (fun d e hd hI => by
      have e3 : m + 1 + k = m + (k + 1) := by omega
      rw [e3] at hI
      exact hs d e (by simpa using hd) hI) e2 h3
theorem En.forStop {f : VS} {it : VI} {g : VG} {body : VS} {env : Ev} {ds : List D} {al : List Nat} {P : Rs → Prop} (I : Nat → Ev → Prop) (k : Nat) (a : it env = some (ds, al)) (hk : k < ds.length) (h0 : I 0 (frz al env))
    (hi : ∀ j d e, j < k → ds[j]? = some d → I j e → ∃ e1, g d e = some e1 ∧ En (body e1) fun r => ∃ e2, r = .nx e2 ∧ I (j + 1) e2)
    (hs : ∀ d e, ds[k]? = some d → I k e → ∃ e1, g d e = some e1 ∧ ((∃ v l, body e1 = .ret v l ∧ P (.ret v l)) ∨ ∃ e2 c fs, body e1 = .ex e2 c fs ∧ P (.ex e2 c fs))) : En (vSeq (vFor it g body) f env) P := by
  have := loop_stop (g := g) (body := body) I (Q := fun r => ((∃ v l, r = .ret v l) ∨ ∃ e2 c fs, r = .ex e2 c fs) ∧ P r) ds k 0 hk (fun j d e hj hd hI => by rw [Nat.zero_add] at hI ⊢; exact hi j d e hj hd hI) (fun d e hd hI => by
    rw [Nat.zero_add] at hI
    obtain ⟨e1, h1, h2⟩ := hs d e hd hI
    refine ⟨e1, h1, ?_⟩
    rcases h2 with ⟨v, l, hb, hp⟩ | ⟨e2, c, fs, hb, hp⟩
    · rw [hb]; exact ⟨.inl ⟨v, l, rfl⟩, .inl ⟨v, l, rfl⟩, hp⟩
    · rw [hb]; exact ⟨.inr ⟨e2, c, fs, rfl⟩, .inr ⟨e2, c, fs, rfl⟩, hp⟩) (frz al env) h0
  have ev : vFor it g body env = loopV g body ds (frz al env) := by unfold vFor; rw [a]
  obtain ⟨h1, h2⟩ := this
  unfold En vSeq
  rw [ev]
  rcases h1 with ⟨v, l, hb⟩ | ⟨e2, c, fs, hb⟩
  · rw [hb] at h2 ⊢; exact h2
  · rw [hb] at h2 ⊢; exact h2

/-! ### texts -/
theorem atI_strs {ws : List Str} {i : Nat} (h : i < ws.length) : L2.atI (strsD ws) (i : Int) = some (.str ws[i]) := by
  have : i < (strsD ws).length := by unfold strsD; rw [List.length_map]; exact h
  rw [atI_get this]
  simp [strsD]
theorem strs_len (ws : List Str) : (strsD ws).length = ws.length := by unfold strsD; rw [List.length_map]
theorem strs_drop (ws : List Str) (n : Nat) : (strsD ws).drop n = strsD (ws.drop n) := by unfold strsD; rw [List.map_drop]
theorem strs_take (ws : List Str) (n : Nat) : (strsD ws).take n = strsD (ws.take n) := by unfold strsD; rw [List.map_take]
theorem strs_app (ws us : List Str) : strsD ws ++ strsD us = strsD (ws ++ us) := by unfold strsD; rw [List.map_append]
theorem noMutL_app : ∀ xs ys : List D, noMutL (xs ++ ys) = (noMutL xs && noMutL ys)
  | [], ys => by rw [List.nil_append]; simp [noMutL]
  | x :: xs, ys => by rw [List.cons_append, noMutL, noMutL, noMutL_app xs ys, Bool.and_assoc]
theorem unstr_strs : ∀ ws : List Str, unstr (strsD ws) = some ws
  | [] => rfl
  | w :: ws => by
    show (match unstr (strsD ws) with | some ys => some (w :: ys) | none => none) = _
    rw [unstr_strs ws]
theorem app_empty (b : Str) : b ++ Str.empty = b := Str.ext' (by rw [Str.cps_append]; simp [Str.empty])
theorem join_nil (s : Str) : Txt.join s [] = Str.empty := by rw [join_eq]; rfl
theorem join_one (s x : Str) : Txt.join s [x] = x := by rw [join_eq]; rfl
theorem join_cons (s x y : Str) (r : List Str) : Txt.join s (x :: y :: r) = x ++ s ++ Txt.join s (y :: r) := by rw [join_eq, join_eq]; rfl
theorem join_snoc (s z : Str) : ∀ (x : Str) (r : List Str), Txt.join s (x :: r ++ [z]) = Txt.join s (x :: r) ++ s ++ z
  | x, [] => by show Txt.join s [x, z] = _; rw [join_cons, join_one, join_one]
  | x, y :: r => by
    show Txt.join s (x :: y :: (r ++ [z])) = _
    have ih := join_snoc s z y r
    rw [join_cons, join_cons, show y :: (r ++ [z]) = y :: r ++ [z] from rfl, ih]
    simp only [Str.append_assoc]
theorem join_take {s : Str} {xs : List Str} {k : Nat} (h : k < xs.length) : Txt.join s (xs.take (k + 1)) = if k = 0 then xs[k] else Txt.join s (xs.take k) ++ s ++ xs[k] := by
  rw [List.take_succ_eq_append_getElem h]
  by_cases hk : k = 0
  · subst hk; rw [if_pos rfl, List.take_zero, List.nil_append, join_one]
  · rw [if_neg hk]
    cases xs with
    | nil => exact absurd h (Nat.not_lt_zero _)
    | cons x r =>
      obtain ⟨m, rfl⟩ : ∃ m, k = m + 1 := ⟨k - 1, by omega⟩
      rw [List.take_succ_cons, join_snoc]
theorem join_length (s : Str) (n : Nat) : ∀ xs : List Str, (∀ x ∈ xs, x.length ≤ n) → (Txt.join s xs).length ≤ xs.length * (n + s.length)
  | [], _ => by rw [join_nil]; exact Nat.zero_le _
  | [x], h => by rw [join_one]; have := h x List.mem_cons_self; simp only [List.length_cons, List.length_nil]; omega
  | x :: y :: r, h => by
    have ih := join_length s n (y :: r) fun z hz => h z (List.mem_cons_of_mem _ hz)
    have hx := h x List.mem_cons_self
    rw [join_cons, Str.length_append, Str.length_append]
    simp only [List.length_cons, Nat.add_mul, Nat.one_mul] at ih ⊢
    omega
theorem sum_len (n : Nat) : ∀ xs : List Str, (∀ x ∈ xs, x.length ≤ n) → (xs.map (·.length)).sum ≤ xs.length * n
  | [], _ => by simp
  | x :: r, h => by
    have ih := sum_len n r fun z hz => h z (List.mem_cons_of_mem _ hz)
    have hx := h x List.mem_cons_self
    simp only [List.map_cons, List.sum_cons, List.length_cons, Nat.add_mul, Nat.one_mul] at ih ⊢
    omega
theorem joinOk_of {s : Str} {xs : List Str} (n : Nat) (h : ∀ x ∈ xs, x.length ≤ n) (h2 : xs.length * (n + s.length) ≤ 16777216) : joinOk s xs = true := by
  have := sum_len n xs h
  rw [Nat.mul_add] at h2
  unfold joinOk
  exact decide_eq_true (by omega)
theorem strOk_append {a b : Str} (h : PyData.strOk a = true) (k : PyData.strOk b = true) : PyData.strOk (a ++ b) = true := by
  unfold PyData.strOk at *
  show (a.cps ++ b.cps).all _ = true
  rw [Array.all_append, h, k]; rfl
theorem strOk_join {s : Str} (hs : PyData.strOk s = true) : ∀ xs : List Str, (∀ x ∈ xs, PyData.strOk x = true) → PyData.strOk (Txt.join s xs) = true
  | [], _ => by rw [join_nil]; simp [PyData.strOk, Str.empty]
  | [x], h => by rw [join_one]; exact h x List.mem_cons_self
  | x :: y :: r, h => by
    rw [join_cons]
    exact strOk_append (strOk_append (h x List.mem_cons_self) hs) (strOk_join hs (y :: r) fun z hz => h z (List.mem_cons_of_mem _ hz))
theorem mem_joinT (s : Str) (c : Nat) (hc : c ∉ tl s) : ∀ xs : List Str, (∀ x ∈ xs, c ∉ tl x) → c ∉ tl (Txt.join s xs)
  | [], _ => by rw [join_nil]; intro z; cases z
  | [x], h => by rw [join_one]; exact h x List.mem_cons_self
  | x :: y :: r, h => by
    rw [join_cons, tl_append, tl_append]
    intro z
    rcases List.mem_append.mp z with z | z
    · rcases List.mem_append.mp z with z | z
      · exact h x List.mem_cons_self z
      · exact hc z
    · exact mem_joinT s c hc (y :: r) (fun z hz => h z (List.mem_cons_of_mem _ hz)) z
theorem split_sp {xs : List Str} (hne : xs ≠ []) (h : ∀ x ∈ xs, 32 ∉ tl x) : Txt.split (Txt.join " " xs) " " = xs := split_join (s := 32) (S := []) (by decide +kernel) (by decide +kernel) hne h
theorem split_nl {xs : List Str} (hne : xs ≠ []) (h : ∀ x ∈ xs, 10 ∉ tl x) : Txt.split (Txt.join "\n" xs) "\n" = xs := split_join (s := 10) (S := []) (by decide +kernel) (by decide +kernel) hne h
theorem log2_small {n : Nat} (h : n < 2 ^ 60) : n.log2 < 1920 := by
  by_cases h0 : n = 0
  · subst h0; decide
  · have := (Nat.log2_lt h0 (k := 60)).mpr h; omega
end VL

namespace VL
open PySem
theorem e_mixed (a b : Int) : ∃ r, c_law_mixed [.int a, .int b] = .ok (.int r) 2 ∧ 0 ≤ r ∧ r < 1000 := by
  have h1 : 0 ≤ (a * 48271 + b * 69621 + 11) % 2147483647 := Int.emod_nonneg _ (by decide)
  have h2 : (a * 48271 + b * 69621 + 11) % 2147483647 < 2147483647 := Int.emod_lt_of_pos _ (by decide)
  have e : c_law_mixed [.int a, .int b] = .ok (.int (((((a * 48271 + b * 69621 + 11) % 2147483647) * ((a * 48271 + b * 69621 + 11) % 2147483647) + b * 40692 + 7) % 2147483399) / 7 % 1000)) 2 := by
    generalize hq : (a * 48271 + b * 69621 + 11) % 2147483647 = q at h1 h2 ⊢
    have hc1 : -18446744073709551616 < q := by omega
    have hc2 : q < 18446744073709551616 := by omega
    simp [VL.vDef, VL.env0, VL.vSeq, VL.vSet, VL.put, VL.frz, VL.thaw, VL.vName, VL.nrm, VL.noMut, VL.noMutL, VL.v2, VL.v1, VL.vC, VL.gIC, VL.gI, VL.gAdd, VL.gMul, VL.cMul, VL.vCons, VL.vCall, VL.g1, VL.gInt, VL.gLen, VL.gAbs, VL.vRet, VL.vRetName, VL.vIfS, VL.tB_, VL.tV, VL.vLst, VL.vTup, VL.lstRv, VL.gridChild, VL.isFlat, VL.dsOf, VL.alOf, VL.mkL, VL.gCat, VL.gCatT, VL.gCatS, VL.gIx, VL.gIxA, VL.atD, VL.gEq, VL.gIsN, VL.gIsB, VL.gIsi, VL.isiD, VL.vAnd, VL.vOr, VL.vNot, VL.truD, VL.tNot_, VL.tAnd_, VL.tOr_, VL.vNeg, VL.vCallF, VL.frRv, VL.vFor, VL.loopV, VL.gN, VL.iRange1, VL.upTo, VL.rngOk, VL.vComp, VL.compV, VL.compRv, VL.wipeE, VL.iSeq, VL.itemsD, VL.gStr, VL.gStrC, VL.gIntA, VL.vSplit, VL.vJoin, VL.itemsOf, VL.gTuple, VL.gList, VL.vApp, VL.chg, VL.notIn, VL.gIxK, VL.gInK, VL.lookD, VL.vAug, c_law_mixed, b_law_mixed, hq, hc1, hc2]
  exact ⟨_, e, Int.emod_nonneg _ (by decide), Int.emod_lt_of_pos _ (by decide)⟩

theorem same_loop {rec : CF} {xs : List D} {d : D} (hd : d = .lst xs ∨ d = .tup xs) (hr : ∀ x ∈ xs, rec [x, x] = .ok (.bl true) 2) : ∀ (m : Nat) (i : Int) (s2 : Slot), 0 ≤ i → i + m ≤ xs.length → ∃ s3,
    loopV (gN 2) (vIfS (tNot_ (tV (vCallF rec (vCons (v2 gIx (vName 0) (vName 2)) (vCons (v2 gIx (vName 1) (vName 2)) (fun _ => some [])))))) (vRet (vC (.bl false))) ((fun e => .nx e))) (upTo i 1 m) [some (0, d), some (0, d), s2] = .nx [some (0, d), some (0, d), s3]
  | 0, i, s2, h1, h2 => ⟨s2, rfl⟩
  | m + 1, i, s2, h1, h2 => by
    obtain ⟨x, e, hx⟩ := atI_ok (p := xs) h1 (by omega)
    obtain ⟨s3, ih⟩ := same_loop hd hr m (i + 1) (some (0, .int i)) (by omega) (by omega)
    refine ⟨s3, ?_⟩
    rw [upTo, loopV]
    have hb : (vIfS (tNot_ (tV (vCallF rec (vCons (v2 gIx (vName 0) (vName 2)) (vCons (v2 gIx (vName 1) (vName 2)) (fun _ => some [])))))) (vRet (vC (.bl false))) ((fun e => .nx e))) [some (0, d), some (0, d), some (0, .int i)] = .nx [some (0, d), some (0, d), some (0, .int i)] := by
      have hrx := hr x hx
      rcases hd with rfl | rfl <;> cases hn : noMut x <;> cases hm : noMutL xs <;> simp [VL.vDef, VL.env0, VL.vSeq, VL.vSet, VL.put, VL.frz, VL.thaw, VL.vName, VL.nrm, VL.noMut, VL.noMutL, VL.v2, VL.v1, VL.vC, VL.gIC, VL.gI, VL.gAdd, VL.gMul, VL.cMul, VL.vCons, VL.vCall, VL.g1, VL.gInt, VL.gLen, VL.gAbs, VL.vRet, VL.vRetName, VL.vIfS, VL.tB_, VL.tV, VL.vLst, VL.vTup, VL.lstRv, VL.gridChild, VL.isFlat, VL.dsOf, VL.alOf, VL.mkL, VL.gCat, VL.gCatT, VL.gCatS, VL.gIx, VL.gIxA, VL.atD, VL.gEq, VL.gIsN, VL.gIsB, VL.gIsi, VL.isiD, VL.vAnd, VL.vOr, VL.vNot, VL.truD, VL.tNot_, VL.tAnd_, VL.tOr_, VL.vNeg, VL.vCallF, VL.frRv, VL.vFor, VL.loopV, VL.gN, VL.iRange1, VL.upTo, VL.rngOk, VL.vComp, VL.compV, VL.compRv, VL.wipeE, VL.iSeq, VL.itemsD, VL.gStr, VL.gStrC, VL.gIntA, VL.vSplit, VL.vJoin, VL.itemsOf, VL.gTuple, VL.gList, VL.vApp, VL.chg, VL.notIn, VL.gIxK, VL.gInK, VL.lookD, VL.vAug, e, hn, hm, hrx]
    have hg : gN 2 (.int i) [some (0, d), some (0, d), s2] = some [some (0, d), some (0, d), some (0, .int i)] := by simp [VL.vDef, VL.env0, VL.vSeq, VL.vSet, VL.put, VL.frz, VL.thaw, VL.vName, VL.nrm, VL.noMut, VL.noMutL, VL.v2, VL.v1, VL.vC, VL.gIC, VL.gI, VL.gAdd, VL.gMul, VL.cMul, VL.vCons, VL.vCall, VL.g1, VL.gInt, VL.gLen, VL.gAbs, VL.vRet, VL.vRetName, VL.vIfS, VL.tB_, VL.tV, VL.vLst, VL.vTup, VL.lstRv, VL.gridChild, VL.isFlat, VL.dsOf, VL.alOf, VL.mkL, VL.gCat, VL.gCatT, VL.gCatS, VL.gIx, VL.gIxA, VL.atD, VL.gEq, VL.gIsN, VL.gIsB, VL.gIsi, VL.isiD, VL.vAnd, VL.vOr, VL.vNot, VL.truD, VL.tNot_, VL.tAnd_, VL.tOr_, VL.vNeg, VL.vCallF, VL.frRv, VL.vFor, VL.loopV, VL.gN, VL.iRange1, VL.upTo, VL.rngOk, VL.vComp, VL.compV, VL.compRv, VL.wipeE, VL.iSeq, VL.itemsD, VL.gStr, VL.gStrC, VL.gIntA, VL.vSplit, VL.vJoin, VL.itemsOf, VL.gTuple, VL.gList, VL.vApp, VL.chg, VL.notIn, VL.gIxK, VL.gInK, VL.lookD, VL.vAug]
    rw [hg]
    dsimp only
    rw [hb]
    exact ih
theorem e_same : ∀ (n : Nat) (d : D), pl n d → c_law_same n [d, d] = .ok (.bl true) 2
  | 0, d, h => h.elim
  | n + 1, .non, h => by kernel_rfl
  | n + 1, .bl true, h => by kernel_rfl
  | n + 1, .bl false, h => by kernel_rfl
  | n + 1, .int i, h => by
    rw [c_law_same]
    simp [VL.vDef, VL.env0, VL.vSeq, VL.vSet, VL.put, VL.frz, VL.thaw, VL.vName, VL.nrm, VL.noMut, VL.noMutL, VL.v2, VL.v1, VL.vC, VL.gIC, VL.gI, VL.gAdd, VL.gMul, VL.cMul, VL.vCons, VL.vCall, VL.g1, VL.gInt, VL.gLen, VL.gAbs, VL.vRet, VL.vRetName, VL.vIfS, VL.tB_, VL.tV, VL.vLst, VL.vTup, VL.lstRv, VL.gridChild, VL.isFlat, VL.dsOf, VL.alOf, VL.mkL, VL.gCat, VL.gCatT, VL.gCatS, VL.gIx, VL.gIxA, VL.atD, VL.gEq, VL.gIsN, VL.gIsB, VL.gIsi, VL.isiD, VL.vAnd, VL.vOr, VL.vNot, VL.truD, VL.tNot_, VL.tAnd_, VL.tOr_, VL.vNeg, VL.vCallF, VL.frRv, VL.vFor, VL.loopV, VL.gN, VL.iRange1, VL.upTo, VL.rngOk, VL.vComp, VL.compV, VL.compRv, VL.wipeE, VL.iSeq, VL.itemsD, VL.gStr, VL.gStrC, VL.gIntA, VL.vSplit, VL.vJoin, VL.itemsOf, VL.gTuple, VL.gList, VL.vApp, VL.chg, VL.notIn, VL.gIxK, VL.gInK, VL.lookD, VL.vAug, b_law_same, eqD_int]
  | n + 1, .str s, h => by
    rw [c_law_same]
    have hs : PyData.strOk s = true := h
    simp [VL.vDef, VL.env0, VL.vSeq, VL.vSet, VL.put, VL.frz, VL.thaw, VL.vName, VL.nrm, VL.noMut, VL.noMutL, VL.v2, VL.v1, VL.vC, VL.gIC, VL.gI, VL.gAdd, VL.gMul, VL.cMul, VL.vCons, VL.vCall, VL.g1, VL.gInt, VL.gLen, VL.gAbs, VL.vRet, VL.vRetName, VL.vIfS, VL.tB_, VL.tV, VL.vLst, VL.vTup, VL.lstRv, VL.gridChild, VL.isFlat, VL.dsOf, VL.alOf, VL.mkL, VL.gCat, VL.gCatT, VL.gCatS, VL.gIx, VL.gIxA, VL.atD, VL.gEq, VL.gIsN, VL.gIsB, VL.gIsi, VL.isiD, VL.vAnd, VL.vOr, VL.vNot, VL.truD, VL.tNot_, VL.tAnd_, VL.tOr_, VL.vNeg, VL.vCallF, VL.frRv, VL.vFor, VL.loopV, VL.gN, VL.iRange1, VL.upTo, VL.rngOk, VL.vComp, VL.compV, VL.compRv, VL.wipeE, VL.iSeq, VL.itemsD, VL.gStr, VL.gStrC, VL.gIntA, VL.vSplit, VL.vJoin, VL.itemsOf, VL.gTuple, VL.gList, VL.vApp, VL.chg, VL.notIn, VL.gIxK, VL.gInK, VL.lookD, VL.vAug, b_law_same, eqD_str hs hs]
  | n + 1, .lst xs, h => by
    rw [c_law_same]
    obtain ⟨h1, h2⟩ : xs.length ≤ 1000000 ∧ ∀ x ∈ xs, pl n x := h
    refine def_ret ?_
    obtain ⟨s3, hl⟩ := same_loop (rec := c_law_same n) (.inl rfl) (fun x hx => e_same n x (h2 x hx)) xs.length 0 none (by omega) (by omega)
    show b_law_same (c_law_same n) [some (0, .lst xs), some (0, .lst xs), none] = _
    unfold b_law_same
    have hc1 : -16777216 ≤ (xs.length : Int) := by omega
    have hc2 : (xs.length : Int) ≤ 16777216 := by omega
    cases hm : noMutL xs <;>
    (refine seq_nx (e := [some (0, .lst xs), some (0, .lst xs), none]) (by simp [VL.vDef, VL.env0, VL.vSeq, VL.vSet, VL.put, VL.frz, VL.thaw, VL.vName, VL.nrm, VL.noMut, VL.noMutL, VL.v2, VL.v1, VL.vC, VL.gIC, VL.gI, VL.gAdd, VL.gMul, VL.cMul, VL.vCons, VL.vCall, VL.g1, VL.gInt, VL.gLen, VL.gAbs, VL.vRet, VL.vRetName, VL.vIfS, VL.tB_, VL.tV, VL.vLst, VL.vTup, VL.lstRv, VL.gridChild, VL.isFlat, VL.dsOf, VL.alOf, VL.mkL, VL.gCat, VL.gCatT, VL.gCatS, VL.gIx, VL.gIxA, VL.atD, VL.gEq, VL.gIsN, VL.gIsB, VL.gIsi, VL.isiD, VL.vAnd, VL.vOr, VL.vNot, VL.truD, VL.tNot_, VL.tAnd_, VL.tOr_, VL.vNeg, VL.vCallF, VL.frRv, VL.vFor, VL.loopV, VL.gN, VL.iRange1, VL.upTo, VL.rngOk, VL.vComp, VL.compV, VL.compRv, VL.wipeE, VL.iSeq, VL.itemsD, VL.gStr, VL.gStrC, VL.gIntA, VL.vSplit, VL.vJoin, VL.itemsOf, VL.gTuple, VL.gList, VL.vApp, VL.chg, VL.notIn, VL.gIxK, VL.gInK, VL.lookD, VL.vAug, hm]) ?_
     refine seq_nx (e := [some (0, .lst xs), some (0, .lst xs), none]) (by simp [VL.vDef, VL.env0, VL.vSeq, VL.vSet, VL.put, VL.frz, VL.thaw, VL.vName, VL.nrm, VL.noMut, VL.noMutL, VL.v2, VL.v1, VL.vC, VL.gIC, VL.gI, VL.gAdd, VL.gMul, VL.cMul, VL.vCons, VL.vCall, VL.g1, VL.gInt, VL.gLen, VL.gAbs, VL.vRet, VL.vRetName, VL.vIfS, VL.tB_, VL.tV, VL.vLst, VL.vTup, VL.lstRv, VL.gridChild, VL.isFlat, VL.dsOf, VL.alOf, VL.mkL, VL.gCat, VL.gCatT, VL.gCatS, VL.gIx, VL.gIxA, VL.atD, VL.gEq, VL.gIsN, VL.gIsB, VL.gIsi, VL.isiD, VL.vAnd, VL.vOr, VL.vNot, VL.truD, VL.tNot_, VL.tAnd_, VL.tOr_, VL.vNeg, VL.vCallF, VL.frRv, VL.vFor, VL.loopV, VL.gN, VL.iRange1, VL.upTo, VL.rngOk, VL.vComp, VL.compV, VL.compRv, VL.wipeE, VL.iSeq, VL.itemsD, VL.gStr, VL.gStrC, VL.gIntA, VL.vSplit, VL.vJoin, VL.itemsOf, VL.gTuple, VL.gList, VL.vApp, VL.chg, VL.notIn, VL.gIxK, VL.gInK, VL.lookD, VL.vAug, hm]) ?_
     refine seq_nx (e := [some (0, .lst xs), some (0, .lst xs), none]) (by simp [VL.vDef, VL.env0, VL.vSeq, VL.vSet, VL.put, VL.frz, VL.thaw, VL.vName, VL.nrm, VL.noMut, VL.noMutL, VL.v2, VL.v1, VL.vC, VL.gIC, VL.gI, VL.gAdd, VL.gMul, VL.cMul, VL.vCons, VL.vCall, VL.g1, VL.gInt, VL.gLen, VL.gAbs, VL.vRet, VL.vRetName, VL.vIfS, VL.tB_, VL.tV, VL.vLst, VL.vTup, VL.lstRv, VL.gridChild, VL.isFlat, VL.dsOf, VL.alOf, VL.mkL, VL.gCat, VL.gCatT, VL.gCatS, VL.gIx, VL.gIxA, VL.atD, VL.gEq, VL.gIsN, VL.gIsB, VL.gIsi, VL.isiD, VL.vAnd, VL.vOr, VL.vNot, VL.truD, VL.tNot_, VL.tAnd_, VL.tOr_, VL.vNeg, VL.vCallF, VL.frRv, VL.vFor, VL.loopV, VL.gN, VL.iRange1, VL.upTo, VL.rngOk, VL.vComp, VL.compV, VL.compRv, VL.wipeE, VL.iSeq, VL.itemsD, VL.gStr, VL.gStrC, VL.gIntA, VL.vSplit, VL.vJoin, VL.itemsOf, VL.gTuple, VL.gList, VL.vApp, VL.chg, VL.notIn, VL.gIxK, VL.gInK, VL.lookD, VL.vAug, hm]) ?_
     refine seq_nx (e := [some (0, .lst xs), some (0, .lst xs), none]) (by simp [VL.vDef, VL.env0, VL.vSeq, VL.vSet, VL.put, VL.frz, VL.thaw, VL.vName, VL.nrm, VL.noMut, VL.noMutL, VL.v2, VL.v1, VL.vC, VL.gIC, VL.gI, VL.gAdd, VL.gMul, VL.cMul, VL.vCons, VL.vCall, VL.g1, VL.gInt, VL.gLen, VL.gAbs, VL.vRet, VL.vRetName, VL.vIfS, VL.tB_, VL.tV, VL.vLst, VL.vTup, VL.lstRv, VL.gridChild, VL.isFlat, VL.dsOf, VL.alOf, VL.mkL, VL.gCat, VL.gCatT, VL.gCatS, VL.gIx, VL.gIxA, VL.atD, VL.gEq, VL.gIsN, VL.gIsB, VL.gIsi, VL.isiD, VL.vAnd, VL.vOr, VL.vNot, VL.truD, VL.tNot_, VL.tAnd_, VL.tOr_, VL.vNeg, VL.vCallF, VL.frRv, VL.vFor, VL.loopV, VL.gN, VL.iRange1, VL.upTo, VL.rngOk, VL.vComp, VL.compV, VL.compRv, VL.wipeE, VL.iSeq, VL.itemsD, VL.gStr, VL.gStrC, VL.gIntA, VL.vSplit, VL.vJoin, VL.itemsOf, VL.gTuple, VL.gList, VL.vApp, VL.chg, VL.notIn, VL.gIxK, VL.gInK, VL.lookD, VL.vAug, hm]) ?_
     refine seq_nx (e := [some (0, .lst xs), some (0, .lst xs), none]) (by simp [VL.vDef, VL.env0, VL.vSeq, VL.vSet, VL.put, VL.frz, VL.thaw, VL.vName, VL.nrm, VL.noMut, VL.noMutL, VL.v2, VL.v1, VL.vC, VL.gIC, VL.gI, VL.gAdd, VL.gMul, VL.cMul, VL.vCons, VL.vCall, VL.g1, VL.gInt, VL.gLen, VL.gAbs, VL.vRet, VL.vRetName, VL.vIfS, VL.tB_, VL.tV, VL.vLst, VL.vTup, VL.lstRv, VL.gridChild, VL.isFlat, VL.dsOf, VL.alOf, VL.mkL, VL.gCat, VL.gCatT, VL.gCatS, VL.gIx, VL.gIxA, VL.atD, VL.gEq, VL.gIsN, VL.gIsB, VL.gIsi, VL.isiD, VL.vAnd, VL.vOr, VL.vNot, VL.truD, VL.tNot_, VL.tAnd_, VL.tOr_, VL.vNeg, VL.vCallF, VL.frRv, VL.vFor, VL.loopV, VL.gN, VL.iRange1, VL.upTo, VL.rngOk, VL.vComp, VL.compV, VL.compRv, VL.wipeE, VL.iSeq, VL.itemsD, VL.gStr, VL.gStrC, VL.gIntA, VL.vSplit, VL.vJoin, VL.itemsOf, VL.gTuple, VL.gList, VL.vApp, VL.chg, VL.notIn, VL.gIxK, VL.gInK, VL.lookD, VL.vAug, hm]) ?_
     refine seq_nx (e := [some (0, .lst xs), some (0, .lst xs), none]) (by simp [VL.vDef, VL.env0, VL.vSeq, VL.vSet, VL.put, VL.frz, VL.thaw, VL.vName, VL.nrm, VL.noMut, VL.noMutL, VL.v2, VL.v1, VL.vC, VL.gIC, VL.gI, VL.gAdd, VL.gMul, VL.cMul, VL.vCons, VL.vCall, VL.g1, VL.gInt, VL.gLen, VL.gAbs, VL.vRet, VL.vRetName, VL.vIfS, VL.tB_, VL.tV, VL.vLst, VL.vTup, VL.lstRv, VL.gridChild, VL.isFlat, VL.dsOf, VL.alOf, VL.mkL, VL.gCat, VL.gCatT, VL.gCatS, VL.gIx, VL.gIxA, VL.atD, VL.gEq, VL.gIsN, VL.gIsB, VL.gIsi, VL.isiD, VL.vAnd, VL.vOr, VL.vNot, VL.truD, VL.tNot_, VL.tAnd_, VL.tOr_, VL.vNeg, VL.vCallF, VL.frRv, VL.vFor, VL.loopV, VL.gN, VL.iRange1, VL.upTo, VL.rngOk, VL.vComp, VL.compV, VL.compRv, VL.wipeE, VL.iSeq, VL.itemsD, VL.gStr, VL.gStrC, VL.gIntA, VL.vSplit, VL.vJoin, VL.itemsOf, VL.gTuple, VL.gList, VL.vApp, VL.chg, VL.notIn, VL.gIxK, VL.gInK, VL.lookD, VL.vAug, hm, eqD_int]) ?_
     refine seq_nx (for_nx (ds := upTo 0 1 xs.length) (al := []) (by simp [VL.vDef, VL.env0, VL.vSeq, VL.vSet, VL.put, VL.frz, VL.thaw, VL.vName, VL.nrm, VL.noMut, VL.noMutL, VL.v2, VL.v1, VL.vC, VL.gIC, VL.gI, VL.gAdd, VL.gMul, VL.cMul, VL.vCons, VL.vCall, VL.g1, VL.gInt, VL.gLen, VL.gAbs, VL.vRet, VL.vRetName, VL.vIfS, VL.tB_, VL.tV, VL.vLst, VL.vTup, VL.lstRv, VL.gridChild, VL.isFlat, VL.dsOf, VL.alOf, VL.mkL, VL.gCat, VL.gCatT, VL.gCatS, VL.gIx, VL.gIxA, VL.atD, VL.gEq, VL.gIsN, VL.gIsB, VL.gIsi, VL.isiD, VL.vAnd, VL.vOr, VL.vNot, VL.truD, VL.tNot_, VL.tAnd_, VL.tOr_, VL.vNeg, VL.vCallF, VL.frRv, VL.vFor, VL.loopV, VL.gN, VL.iRange1, VL.upTo, VL.rngOk, VL.vComp, VL.compV, VL.compRv, VL.wipeE, VL.iSeq, VL.itemsD, VL.gStr, VL.gStrC, VL.gIntA, VL.vSplit, VL.vJoin, VL.itemsOf, VL.gTuple, VL.gList, VL.vApp, VL.chg, VL.notIn, VL.gIxK, VL.gInK, VL.lookD, VL.vAug, hm, hc1, hc2]) hl) rfl)
  | n + 1, .tup xs, h => by
    rw [c_law_same]
    obtain ⟨h1, h2⟩ : xs.length ≤ 1000000 ∧ ∀ x ∈ xs, pl n x := h
    refine def_ret ?_
    obtain ⟨s3, hl⟩ := same_loop (rec := c_law_same n) (.inr rfl) (fun x hx => e_same n x (h2 x hx)) xs.length 0 none (by omega) (by omega)
    show b_law_same (c_law_same n) [some (0, .tup xs), some (0, .tup xs), none] = _
    unfold b_law_same
    have hc1 : -16777216 ≤ (xs.length : Int) := by omega
    have hc2 : (xs.length : Int) ≤ 16777216 := by omega
    cases hm : noMutL xs <;>
    (refine seq_nx (e := [some (0, .tup xs), some (0, .tup xs), none]) (by simp [VL.vDef, VL.env0, VL.vSeq, VL.vSet, VL.put, VL.frz, VL.thaw, VL.vName, VL.nrm, VL.noMut, VL.noMutL, VL.v2, VL.v1, VL.vC, VL.gIC, VL.gI, VL.gAdd, VL.gMul, VL.cMul, VL.vCons, VL.vCall, VL.g1, VL.gInt, VL.gLen, VL.gAbs, VL.vRet, VL.vRetName, VL.vIfS, VL.tB_, VL.tV, VL.vLst, VL.vTup, VL.lstRv, VL.gridChild, VL.isFlat, VL.dsOf, VL.alOf, VL.mkL, VL.gCat, VL.gCatT, VL.gCatS, VL.gIx, VL.gIxA, VL.atD, VL.gEq, VL.gIsN, VL.gIsB, VL.gIsi, VL.isiD, VL.vAnd, VL.vOr, VL.vNot, VL.truD, VL.tNot_, VL.tAnd_, VL.tOr_, VL.vNeg, VL.vCallF, VL.frRv, VL.vFor, VL.loopV, VL.gN, VL.iRange1, VL.upTo, VL.rngOk, VL.vComp, VL.compV, VL.compRv, VL.wipeE, VL.iSeq, VL.itemsD, VL.gStr, VL.gStrC, VL.gIntA, VL.vSplit, VL.vJoin, VL.itemsOf, VL.gTuple, VL.gList, VL.vApp, VL.chg, VL.notIn, VL.gIxK, VL.gInK, VL.lookD, VL.vAug, hm]) ?_
     refine seq_nx (e := [some (0, .tup xs), some (0, .tup xs), none]) (by simp [VL.vDef, VL.env0, VL.vSeq, VL.vSet, VL.put, VL.frz, VL.thaw, VL.vName, VL.nrm, VL.noMut, VL.noMutL, VL.v2, VL.v1, VL.vC, VL.gIC, VL.gI, VL.gAdd, VL.gMul, VL.cMul, VL.vCons, VL.vCall, VL.g1, VL.gInt, VL.gLen, VL.gAbs, VL.vRet, VL.vRetName, VL.vIfS, VL.tB_, VL.tV, VL.vLst, VL.vTup, VL.lstRv, VL.gridChild, VL.isFlat, VL.dsOf, VL.alOf, VL.mkL, VL.gCat, VL.gCatT, VL.gCatS, VL.gIx, VL.gIxA, VL.atD, VL.gEq, VL.gIsN, VL.gIsB, VL.gIsi, VL.isiD, VL.vAnd, VL.vOr, VL.vNot, VL.truD, VL.tNot_, VL.tAnd_, VL.tOr_, VL.vNeg, VL.vCallF, VL.frRv, VL.vFor, VL.loopV, VL.gN, VL.iRange1, VL.upTo, VL.rngOk, VL.vComp, VL.compV, VL.compRv, VL.wipeE, VL.iSeq, VL.itemsD, VL.gStr, VL.gStrC, VL.gIntA, VL.vSplit, VL.vJoin, VL.itemsOf, VL.gTuple, VL.gList, VL.vApp, VL.chg, VL.notIn, VL.gIxK, VL.gInK, VL.lookD, VL.vAug, hm]) ?_
     refine seq_nx (e := [some (0, .tup xs), some (0, .tup xs), none]) (by simp [VL.vDef, VL.env0, VL.vSeq, VL.vSet, VL.put, VL.frz, VL.thaw, VL.vName, VL.nrm, VL.noMut, VL.noMutL, VL.v2, VL.v1, VL.vC, VL.gIC, VL.gI, VL.gAdd, VL.gMul, VL.cMul, VL.vCons, VL.vCall, VL.g1, VL.gInt, VL.gLen, VL.gAbs, VL.vRet, VL.vRetName, VL.vIfS, VL.tB_, VL.tV, VL.vLst, VL.vTup, VL.lstRv, VL.gridChild, VL.isFlat, VL.dsOf, VL.alOf, VL.mkL, VL.gCat, VL.gCatT, VL.gCatS, VL.gIx, VL.gIxA, VL.atD, VL.gEq, VL.gIsN, VL.gIsB, VL.gIsi, VL.isiD, VL.vAnd, VL.vOr, VL.vNot, VL.truD, VL.tNot_, VL.tAnd_, VL.tOr_, VL.vNeg, VL.vCallF, VL.frRv, VL.vFor, VL.loopV, VL.gN, VL.iRange1, VL.upTo, VL.rngOk, VL.vComp, VL.compV, VL.compRv, VL.wipeE, VL.iSeq, VL.itemsD, VL.gStr, VL.gStrC, VL.gIntA, VL.vSplit, VL.vJoin, VL.itemsOf, VL.gTuple, VL.gList, VL.vApp, VL.chg, VL.notIn, VL.gIxK, VL.gInK, VL.lookD, VL.vAug, hm]) ?_
     refine seq_nx (e := [some (0, .tup xs), some (0, .tup xs), none]) (by simp [VL.vDef, VL.env0, VL.vSeq, VL.vSet, VL.put, VL.frz, VL.thaw, VL.vName, VL.nrm, VL.noMut, VL.noMutL, VL.v2, VL.v1, VL.vC, VL.gIC, VL.gI, VL.gAdd, VL.gMul, VL.cMul, VL.vCons, VL.vCall, VL.g1, VL.gInt, VL.gLen, VL.gAbs, VL.vRet, VL.vRetName, VL.vIfS, VL.tB_, VL.tV, VL.vLst, VL.vTup, VL.lstRv, VL.gridChild, VL.isFlat, VL.dsOf, VL.alOf, VL.mkL, VL.gCat, VL.gCatT, VL.gCatS, VL.gIx, VL.gIxA, VL.atD, VL.gEq, VL.gIsN, VL.gIsB, VL.gIsi, VL.isiD, VL.vAnd, VL.vOr, VL.vNot, VL.truD, VL.tNot_, VL.tAnd_, VL.tOr_, VL.vNeg, VL.vCallF, VL.frRv, VL.vFor, VL.loopV, VL.gN, VL.iRange1, VL.upTo, VL.rngOk, VL.vComp, VL.compV, VL.compRv, VL.wipeE, VL.iSeq, VL.itemsD, VL.gStr, VL.gStrC, VL.gIntA, VL.vSplit, VL.vJoin, VL.itemsOf, VL.gTuple, VL.gList, VL.vApp, VL.chg, VL.notIn, VL.gIxK, VL.gInK, VL.lookD, VL.vAug, hm]) ?_
     refine seq_nx (e := [some (0, .tup xs), some (0, .tup xs), none]) (by simp [VL.vDef, VL.env0, VL.vSeq, VL.vSet, VL.put, VL.frz, VL.thaw, VL.vName, VL.nrm, VL.noMut, VL.noMutL, VL.v2, VL.v1, VL.vC, VL.gIC, VL.gI, VL.gAdd, VL.gMul, VL.cMul, VL.vCons, VL.vCall, VL.g1, VL.gInt, VL.gLen, VL.gAbs, VL.vRet, VL.vRetName, VL.vIfS, VL.tB_, VL.tV, VL.vLst, VL.vTup, VL.lstRv, VL.gridChild, VL.isFlat, VL.dsOf, VL.alOf, VL.mkL, VL.gCat, VL.gCatT, VL.gCatS, VL.gIx, VL.gIxA, VL.atD, VL.gEq, VL.gIsN, VL.gIsB, VL.gIsi, VL.isiD, VL.vAnd, VL.vOr, VL.vNot, VL.truD, VL.tNot_, VL.tAnd_, VL.tOr_, VL.vNeg, VL.vCallF, VL.frRv, VL.vFor, VL.loopV, VL.gN, VL.iRange1, VL.upTo, VL.rngOk, VL.vComp, VL.compV, VL.compRv, VL.wipeE, VL.iSeq, VL.itemsD, VL.gStr, VL.gStrC, VL.gIntA, VL.vSplit, VL.vJoin, VL.itemsOf, VL.gTuple, VL.gList, VL.vApp, VL.chg, VL.notIn, VL.gIxK, VL.gInK, VL.lookD, VL.vAug, hm]) ?_
     refine seq_nx (e := [some (0, .tup xs), some (0, .tup xs), none]) (by simp [VL.vDef, VL.env0, VL.vSeq, VL.vSet, VL.put, VL.frz, VL.thaw, VL.vName, VL.nrm, VL.noMut, VL.noMutL, VL.v2, VL.v1, VL.vC, VL.gIC, VL.gI, VL.gAdd, VL.gMul, VL.cMul, VL.vCons, VL.vCall, VL.g1, VL.gInt, VL.gLen, VL.gAbs, VL.vRet, VL.vRetName, VL.vIfS, VL.tB_, VL.tV, VL.vLst, VL.vTup, VL.lstRv, VL.gridChild, VL.isFlat, VL.dsOf, VL.alOf, VL.mkL, VL.gCat, VL.gCatT, VL.gCatS, VL.gIx, VL.gIxA, VL.atD, VL.gEq, VL.gIsN, VL.gIsB, VL.gIsi, VL.isiD, VL.vAnd, VL.vOr, VL.vNot, VL.truD, VL.tNot_, VL.tAnd_, VL.tOr_, VL.vNeg, VL.vCallF, VL.frRv, VL.vFor, VL.loopV, VL.gN, VL.iRange1, VL.upTo, VL.rngOk, VL.vComp, VL.compV, VL.compRv, VL.wipeE, VL.iSeq, VL.itemsD, VL.gStr, VL.gStrC, VL.gIntA, VL.vSplit, VL.vJoin, VL.itemsOf, VL.gTuple, VL.gList, VL.vApp, VL.chg, VL.notIn, VL.gIxK, VL.gInK, VL.lookD, VL.vAug, hm, eqD_int]) ?_
     refine seq_nx (for_nx (ds := upTo 0 1 xs.length) (al := []) (by simp [VL.vDef, VL.env0, VL.vSeq, VL.vSet, VL.put, VL.frz, VL.thaw, VL.vName, VL.nrm, VL.noMut, VL.noMutL, VL.v2, VL.v1, VL.vC, VL.gIC, VL.gI, VL.gAdd, VL.gMul, VL.cMul, VL.vCons, VL.vCall, VL.g1, VL.gInt, VL.gLen, VL.gAbs, VL.vRet, VL.vRetName, VL.vIfS, VL.tB_, VL.tV, VL.vLst, VL.vTup, VL.lstRv, VL.gridChild, VL.isFlat, VL.dsOf, VL.alOf, VL.mkL, VL.gCat, VL.gCatT, VL.gCatS, VL.gIx, VL.gIxA, VL.atD, VL.gEq, VL.gIsN, VL.gIsB, VL.gIsi, VL.isiD, VL.vAnd, VL.vOr, VL.vNot, VL.truD, VL.tNot_, VL.tAnd_, VL.tOr_, VL.vNeg, VL.vCallF, VL.frRv, VL.vFor, VL.loopV, VL.gN, VL.iRange1, VL.upTo, VL.rngOk, VL.vComp, VL.compV, VL.compRv, VL.wipeE, VL.iSeq, VL.itemsD, VL.gStr, VL.gStrC, VL.gIntA, VL.vSplit, VL.vJoin, VL.itemsOf, VL.gTuple, VL.gList, VL.vApp, VL.chg, VL.notIn, VL.gIxK, VL.gInK, VL.lookD, VL.vAug, hm, hc1, hc2]) hl) rfl)
  | n + 1, .dic kvs, h => h.elim
  | n + 1, .ins c fs, h => h.elim
  | n + 1, .scr ns, h => h.elim
  | n + 1, .exc c fs, h => h.elim
  | n + 1, .kdc kvs, h => h.elim
/-- what the pool is made of -/
def I1 (ns cs : List Int) (n : Int) (k : Nat) (e : Ev) : Prop := ∃ s3 fl ds s5 s6 s7 f2, e = [some (0, .scr ns), some (0, .int n), some (f2, .lst (cs.map .int)), s3, some (fl, .lst ds), s5, s6, s7, none, none, none] ∧ 1 ≤ fl ∧ ds.length = k ∧ ∀ d ∈ ds, Row d
def I2 (ns cs : List Int) (n c : Int) (ds : List D) (fl f2 : Nat) (k : Nat) (e : Ev) : Prop := ∃ f5 p r s7 m, e = [some (0, .scr ns), some (0, .int n), some (f2, .lst (cs.map .int)), some (0, .int c), some (fl, .lst ds), some (f5, .lst p), some (2, .int r), s7, none, none, none] ∧ 1 ≤ f5 ∧ m ≤ k ∧ Pool m p
theorem pool_digits {ns cs : List Int} {n : Int} (hcs : cs.length ≤ 63) {k : Nat} {d : D} {e : Ev} (hk : k < 63) (hd : ∃ c : Int, d = .int c) (h : I1 ns cs n k e) :
    ∃ e1, gN 3 d e = some e1 ∧ ∃ e2, (vSeq (vSet 5 (vLst (fun _ => some [])))
  (vSeq (vSet 6 (vName 3))
  (vSeq (vIfS (tB_ (v2 (gI fun i j => .bl (decide (j ≤ i))) (vName 3) (v2 (gIC (fun i j => decide (0 ≤ j) && (decide (j ≤ 1000000) && decide (i.natAbs < 2 ^ 64))) fun i j => .int (i ^ j.toNat)) (vC (.int 10)) (vC (.int 18))))) (vFor (iRange1 (vCons (vC (.int 90)) (fun _ => some []))) (gN 7) (vIfS (tB_ (v2 (gI fun i j => .bl (decide (j < i))) (vName 6) (vC (.int 0)))) (vSeq (vApp 5 (v2 (gIC (fun _ j => decide (0 < j)) fun i j => .int (i % j)) (vCall (g1 gInt) (vCons (vName 6) (fun _ => some []))) (vC (.int 1000))))
  (vSet 6 (v2 (gIC (fun _ j => decide (0 < j) && decide (j < 1073741824)) fun i j => .int (i / j)) (vName 6) (vC (.int 1000))))) ((fun e => .nx e)))) ((fun e => .nx e)))
  (vApp 4 (vName 5))))) e1 = .nx e2 ∧ I1 ns cs n (k + 1) e2 := by
  obtain ⟨c, rfl⟩ := hd
  obtain ⟨s3, fl, ds, s5, s6, s7, f2, rfl, h1, h2, h3⟩ := h
  refine ⟨[some (0, .scr ns), some (0, .int n), some (f2, .lst (cs.map .int)), some (0, .int c), some (fl, .lst ds), s5, s6, s7, none, none, none], by simp [VL.vDef, VL.env0, VL.vSeq, VL.vSet, VL.put, VL.frz, VL.thaw, VL.vName, VL.nrm, VL.noMut, VL.noMutL, VL.v2, VL.v1, VL.vC, VL.gIC, VL.gI, VL.gAdd, VL.gMul, VL.cMul, VL.vCons, VL.vCall, VL.g1, VL.gInt, VL.gLen, VL.gAbs, VL.vRet, VL.vRetName, VL.vIfS, VL.tB_, VL.tV, VL.vLst, VL.vTup, VL.lstRv, VL.gridChild, VL.isFlat, VL.dsOf, VL.alOf, VL.mkL, VL.gCat, VL.gCatT, VL.gCatS, VL.gIx, VL.gIxA, VL.atD, VL.gEq, VL.gIsN, VL.gIsB, VL.gIsi, VL.isiD, VL.vAnd, VL.vOr, VL.vNot, VL.truD, VL.tNot_, VL.tAnd_, VL.tOr_, VL.vNeg, VL.vCallF, VL.frRv, VL.vFor, VL.loopV, VL.gN, VL.iRange1, VL.upTo, VL.rngOk, VL.vComp, VL.compV, VL.compRv, VL.wipeE, VL.iSeq, VL.itemsD, VL.gStr, VL.gStrC, VL.gIntA, VL.vSplit, VL.vJoin, VL.itemsOf, VL.gTuple, VL.gList, VL.vApp, VL.chg, VL.notIn, VL.gIxK, VL.gInK, VL.lookD, VL.vAug], ?_⟩
  refine seqP (P := fun r => ∃ e2, r = .nx e2 ∧ I1 ns cs n (k + 1) e2) (e := [some (0, .scr ns), some (0, .int n), some (f2, .lst (cs.map .int)), some (0, .int c), some (fl, .lst ds), some (2, .lst []), s6, s7, none, none, none]) (by simp [VL.vDef, VL.env0, VL.vSeq, VL.vSet, VL.put, VL.frz, VL.thaw, VL.vName, VL.nrm, VL.noMut, VL.noMutL, VL.v2, VL.v1, VL.vC, VL.gIC, VL.gI, VL.gAdd, VL.gMul, VL.cMul, VL.vCons, VL.vCall, VL.g1, VL.gInt, VL.gLen, VL.gAbs, VL.vRet, VL.vRetName, VL.vIfS, VL.tB_, VL.tV, VL.vLst, VL.vTup, VL.lstRv, VL.gridChild, VL.isFlat, VL.dsOf, VL.alOf, VL.mkL, VL.gCat, VL.gCatT, VL.gCatS, VL.gIx, VL.gIxA, VL.atD, VL.gEq, VL.gIsN, VL.gIsB, VL.gIsi, VL.isiD, VL.vAnd, VL.vOr, VL.vNot, VL.truD, VL.tNot_, VL.tAnd_, VL.tOr_, VL.vNeg, VL.vCallF, VL.frRv, VL.vFor, VL.loopV, VL.gN, VL.iRange1, VL.upTo, VL.rngOk, VL.vComp, VL.compV, VL.compRv, VL.wipeE, VL.iSeq, VL.itemsD, VL.gStr, VL.gStrC, VL.gIntA, VL.vSplit, VL.vJoin, VL.itemsOf, VL.gTuple, VL.gList, VL.vApp, VL.chg, VL.notIn, VL.gIxK, VL.gInK, VL.lookD, VL.vAug]) ?_
  refine seqP (P := fun r => ∃ e2, r = .nx e2 ∧ I1 ns cs n (k + 1) e2) (e := [some (0, .scr ns), some (0, .int n), some (f2, .lst (cs.map .int)), some (0, .int c), some (fl, .lst ds), some (2, .lst []), some (2, .int c), s7, none, none, none]) (by simp [VL.vDef, VL.env0, VL.vSeq, VL.vSet, VL.put, VL.frz, VL.thaw, VL.vName, VL.nrm, VL.noMut, VL.noMutL, VL.v2, VL.v1, VL.vC, VL.gIC, VL.gI, VL.gAdd, VL.gMul, VL.cMul, VL.vCons, VL.vCall, VL.g1, VL.gInt, VL.gLen, VL.gAbs, VL.vRet, VL.vRetName, VL.vIfS, VL.tB_, VL.tV, VL.vLst, VL.vTup, VL.lstRv, VL.gridChild, VL.isFlat, VL.dsOf, VL.alOf, VL.mkL, VL.gCat, VL.gCatT, VL.gCatS, VL.gIx, VL.gIxA, VL.atD, VL.gEq, VL.gIsN, VL.gIsB, VL.gIsi, VL.isiD, VL.vAnd, VL.vOr, VL.vNot, VL.truD, VL.tNot_, VL.tAnd_, VL.tOr_, VL.vNeg, VL.vCallF, VL.frRv, VL.vFor, VL.loopV, VL.gN, VL.iRange1, VL.upTo, VL.rngOk, VL.vComp, VL.compV, VL.compRv, VL.wipeE, VL.iSeq, VL.itemsD, VL.gStr, VL.gStrC, VL.gIntA, VL.vSplit, VL.vJoin, VL.itemsOf, VL.gTuple, VL.gList, VL.vApp, VL.chg, VL.notIn, VL.gIxK, VL.gInK, VL.lookD, VL.vAug]) ?_
  refine seqQ (P := fun r => ∃ e2, r = .nx e2 ∧ I1 ns cs n (k + 1) e2) ?_
  have fin : ∀ e, I2 ns cs n c ds fl f2 90 e → ∃ e2, vApp 4 (vName 5) e = .nx e2 ∧ I1 ns cs n (k + 1) e2 := fun e h => by
    obtain ⟨f5, p, r, s7, m, rfl, a1, a2, a3⟩ := h
    have hl : ds.length < 16777216 := by omega
    refine ⟨[some (0, .scr ns), some (0, .int n), some (f2, .lst (cs.map .int)), some (0, .int c), some (1, .lst (ds ++ [.lst p])), some (0, .lst p), some (2, .int r), s7, none, none, none], by simp [VL.vDef, VL.env0, VL.vSeq, VL.vSet, VL.put, VL.frz, VL.thaw, VL.vName, VL.nrm, VL.noMut, VL.noMutL, VL.v2, VL.v1, VL.vC, VL.gIC, VL.gI, VL.gAdd, VL.gMul, VL.cMul, VL.vCons, VL.vCall, VL.g1, VL.gInt, VL.gLen, VL.gAbs, VL.vRet, VL.vRetName, VL.vIfS, VL.tB_, VL.tV, VL.vLst, VL.vTup, VL.lstRv, VL.gridChild, VL.isFlat, VL.dsOf, VL.alOf, VL.mkL, VL.gCat, VL.gCatT, VL.gCatS, VL.gIx, VL.gIxA, VL.atD, VL.gEq, VL.gIsN, VL.gIsB, VL.gIsi, VL.isiD, VL.vAnd, VL.vOr, VL.vNot, VL.truD, VL.tNot_, VL.tAnd_, VL.tOr_, VL.vNeg, VL.vCallF, VL.frRv, VL.vFor, VL.loopV, VL.gN, VL.iRange1, VL.upTo, VL.rngOk, VL.vComp, VL.compV, VL.compRv, VL.wipeE, VL.iSeq, VL.itemsD, VL.gStr, VL.gStrC, VL.gIntA, VL.vSplit, VL.vJoin, VL.itemsOf, VL.gTuple, VL.gList, VL.vApp, VL.chg, VL.notIn, VL.gIxK, VL.gInK, VL.lookD, VL.vAug, h1, hl], ?_⟩
    refine ⟨_, _, _, _, _, _, _, rfl, Nat.le_refl _, by rw [List.length_append, h2]; rfl, fun d hd => ?_⟩
    rcases List.mem_append.mp hd with hd | hd
    · exact h3 d hd
    · rw [List.mem_singleton] at hd
      exact ⟨m, p, hd, a2, a3⟩
  by_cases hc : 1000000000000000000 ≤ c
  · rw [ifT (by simp [VL.vDef, VL.env0, VL.vSeq, VL.vSet, VL.put, VL.frz, VL.thaw, VL.vName, VL.nrm, VL.noMut, VL.noMutL, VL.v2, VL.v1, VL.vC, VL.gIC, VL.gI, VL.gAdd, VL.gMul, VL.cMul, VL.vCons, VL.vCall, VL.g1, VL.gInt, VL.gLen, VL.gAbs, VL.vRet, VL.vRetName, VL.vIfS, VL.tB_, VL.tV, VL.vLst, VL.vTup, VL.lstRv, VL.gridChild, VL.isFlat, VL.dsOf, VL.alOf, VL.mkL, VL.gCat, VL.gCatT, VL.gCatS, VL.gIx, VL.gIxA, VL.atD, VL.gEq, VL.gIsN, VL.gIsB, VL.gIsi, VL.isiD, VL.vAnd, VL.vOr, VL.vNot, VL.truD, VL.tNot_, VL.tAnd_, VL.tOr_, VL.vNeg, VL.vCallF, VL.frRv, VL.vFor, VL.loopV, VL.gN, VL.iRange1, VL.upTo, VL.rngOk, VL.vComp, VL.compV, VL.compRv, VL.wipeE, VL.iSeq, VL.itemsD, VL.gStr, VL.gStrC, VL.gIntA, VL.vSplit, VL.vJoin, VL.itemsOf, VL.gTuple, VL.gList, VL.vApp, VL.chg, VL.notIn, VL.gIxK, VL.gInK, VL.lookD, VL.vAug, hc])]
    obtain ⟨e, he, hi⟩ := forI (it := iRange1 (vCons (vC (.int 90)) (fun _ => some []))) (g := gN 7) (env := [some (0, .scr ns), some (0, .int n), some (f2, .lst (cs.map .int)), some (0, .int c), some (fl, .lst ds), some (2, .lst []), some (2, .int c), s7, none, none, none])
      (body := (vIfS (tB_ (v2 (gI fun i j => .bl (decide (j < i))) (vName 6) (vC (.int 0)))) (vSeq (vApp 5 (v2 (gIC (fun _ j => decide (0 < j)) fun i j => .int (i % j)) (vCall (g1 gInt) (vCons (vName 6) (fun _ => some []))) (vC (.int 1000))))
        (vSet 6 (v2 (gIC (fun _ j => decide (0 < j) && decide (j < 1073741824)) fun i j => .int (i / j)) (vName 6) (vC (.int 1000))))) ((fun e => .nx e))))
      (I2 ns cs n c ds fl f2) (ds := upTo 0 1 90) (al := []) rfl ⟨2, [], c, s7, 0, rfl, by decide, Nat.le_refl _, pool_nil⟩ (fun j d e hj hi => by
        obtain ⟨hj90, rfl⟩ := upTo_at hj
        obtain ⟨f5, p, r, s7, m, rfl, a1, a2, a3⟩ := hi
        refine ⟨[some (0, .scr ns), some (0, .int n), some (f2, .lst (cs.map .int)), some (0, .int c), some (fl, .lst ds), some (f5, .lst p), some (2, .int r), some (0, .int (0 + j * 1)), none, none, none], by simp [VL.vDef, VL.env0, VL.vSeq, VL.vSet, VL.put, VL.frz, VL.thaw, VL.vName, VL.nrm, VL.noMut, VL.noMutL, VL.v2, VL.v1, VL.vC, VL.gIC, VL.gI, VL.gAdd, VL.gMul, VL.cMul, VL.vCons, VL.vCall, VL.g1, VL.gInt, VL.gLen, VL.gAbs, VL.vRet, VL.vRetName, VL.vIfS, VL.tB_, VL.tV, VL.vLst, VL.vTup, VL.lstRv, VL.gridChild, VL.isFlat, VL.dsOf, VL.alOf, VL.mkL, VL.gCat, VL.gCatT, VL.gCatS, VL.gIx, VL.gIxA, VL.atD, VL.gEq, VL.gIsN, VL.gIsB, VL.gIsi, VL.isiD, VL.vAnd, VL.vOr, VL.vNot, VL.truD, VL.tNot_, VL.tAnd_, VL.tOr_, VL.vNeg, VL.vCallF, VL.frRv, VL.vFor, VL.loopV, VL.gN, VL.iRange1, VL.upTo, VL.rngOk, VL.vComp, VL.compV, VL.compRv, VL.wipeE, VL.iSeq, VL.itemsD, VL.gStr, VL.gStrC, VL.gIntA, VL.vSplit, VL.vJoin, VL.itemsOf, VL.gTuple, VL.gList, VL.vApp, VL.chg, VL.notIn, VL.gIxK, VL.gInK, VL.lookD, VL.vAug], ?_⟩
        by_cases hr : 0 < r
        · have hl : p.length < 16777216 := by rw [a3.1]; omega
          refine ⟨[some (0, .scr ns), some (0, .int n), some (f2, .lst (cs.map .int)), some (0, .int c), some (fl, .lst ds), some (1, .lst (p ++ [.int (r % 1000)])), some (2, .int (r / 1000)), some (0, .int (0 + j * 1)), none, none, none], by simp [VL.vDef, VL.env0, VL.vSeq, VL.vSet, VL.put, VL.frz, VL.thaw, VL.vName, VL.nrm, VL.noMut, VL.noMutL, VL.v2, VL.v1, VL.vC, VL.gIC, VL.gI, VL.gAdd, VL.gMul, VL.cMul, VL.vCons, VL.vCall, VL.g1, VL.gInt, VL.gLen, VL.gAbs, VL.vRet, VL.vRetName, VL.vIfS, VL.tB_, VL.tV, VL.vLst, VL.vTup, VL.lstRv, VL.gridChild, VL.isFlat, VL.dsOf, VL.alOf, VL.mkL, VL.gCat, VL.gCatT, VL.gCatS, VL.gIx, VL.gIxA, VL.atD, VL.gEq, VL.gIsN, VL.gIsB, VL.gIsi, VL.isiD, VL.vAnd, VL.vOr, VL.vNot, VL.truD, VL.tNot_, VL.tAnd_, VL.tOr_, VL.vNeg, VL.vCallF, VL.frRv, VL.vFor, VL.loopV, VL.gN, VL.iRange1, VL.upTo, VL.rngOk, VL.vComp, VL.compV, VL.compRv, VL.wipeE, VL.iSeq, VL.itemsD, VL.gStr, VL.gStrC, VL.gIntA, VL.vSplit, VL.vJoin, VL.itemsOf, VL.gTuple, VL.gList, VL.vApp, VL.chg, VL.notIn, VL.gIxK, VL.gInK, VL.lookD, VL.vAug, hr, a1, hl], ?_⟩
          exact ⟨1, _, _, _, m + 1, rfl, Nat.le_refl _, by omega, row_add a3 (Int.emod_nonneg _ (by decide)) (Int.emod_lt_of_pos _ (by decide))⟩
        · exact ⟨[some (0, .scr ns), some (0, .int n), some (f2, .lst (cs.map .int)), some (0, .int c), some (fl, .lst ds), some (f5, .lst p), some (2, .int r), some (0, .int (0 + j * 1)), none, none, none], by simp [VL.vDef, VL.env0, VL.vSeq, VL.vSet, VL.put, VL.frz, VL.thaw, VL.vName, VL.nrm, VL.noMut, VL.noMutL, VL.v2, VL.v1, VL.vC, VL.gIC, VL.gI, VL.gAdd, VL.gMul, VL.cMul, VL.vCons, VL.vCall, VL.g1, VL.gInt, VL.gLen, VL.gAbs, VL.vRet, VL.vRetName, VL.vIfS, VL.tB_, VL.tV, VL.vLst, VL.vTup, VL.lstRv, VL.gridChild, VL.isFlat, VL.dsOf, VL.alOf, VL.mkL, VL.gCat, VL.gCatT, VL.gCatS, VL.gIx, VL.gIxA, VL.atD, VL.gEq, VL.gIsN, VL.gIsB, VL.gIsi, VL.isiD, VL.vAnd, VL.vOr, VL.vNot, VL.truD, VL.tNot_, VL.tAnd_, VL.tOr_, VL.vNeg, VL.vCallF, VL.frRv, VL.vFor, VL.loopV, VL.gN, VL.iRange1, VL.upTo, VL.rngOk, VL.vComp, VL.compV, VL.compRv, VL.wipeE, VL.iSeq, VL.itemsD, VL.gStr, VL.gStrC, VL.gIntA, VL.vSplit, VL.vJoin, VL.itemsOf, VL.gTuple, VL.gList, VL.vApp, VL.chg, VL.notIn, VL.gIxK, VL.gInK, VL.lookD, VL.vAug, hr], ⟨f5, p, r, _, m, rfl, a1, by omega, a3⟩⟩)
    rw [upTo_length] at hi
    exact ⟨e, he, fin e hi⟩
  · rw [ifF (by simp [VL.vDef, VL.env0, VL.vSeq, VL.vSet, VL.put, VL.frz, VL.thaw, VL.vName, VL.nrm, VL.noMut, VL.noMutL, VL.v2, VL.v1, VL.vC, VL.gIC, VL.gI, VL.gAdd, VL.gMul, VL.cMul, VL.vCons, VL.vCall, VL.g1, VL.gInt, VL.gLen, VL.gAbs, VL.vRet, VL.vRetName, VL.vIfS, VL.tB_, VL.tV, VL.vLst, VL.vTup, VL.lstRv, VL.gridChild, VL.isFlat, VL.dsOf, VL.alOf, VL.mkL, VL.gCat, VL.gCatT, VL.gCatS, VL.gIx, VL.gIxA, VL.atD, VL.gEq, VL.gIsN, VL.gIsB, VL.gIsi, VL.isiD, VL.vAnd, VL.vOr, VL.vNot, VL.truD, VL.tNot_, VL.tAnd_, VL.tOr_, VL.vNeg, VL.vCallF, VL.frRv, VL.vFor, VL.loopV, VL.gN, VL.iRange1, VL.upTo, VL.rngOk, VL.vComp, VL.compV, VL.compRv, VL.wipeE, VL.iSeq, VL.itemsD, VL.gStr, VL.gStrC, VL.gIntA, VL.vSplit, VL.vJoin, VL.itemsOf, VL.gTuple, VL.gList, VL.vApp, VL.chg, VL.notIn, VL.gIxK, VL.gInK, VL.lookD, VL.vAug, hc])]
    exact ⟨_, rfl, fin _ ⟨2, [], c, s7, 0, rfl, by decide, by decide, pool_nil⟩⟩
def I3 (ns cs : List Int) (n : Int) (k : Nat) (e : Ev) : Prop := ∃ s3 f4 ds s5 s6 s7 f2 f8 p s9 s10, e = [some (0, .scr ns), some (0, .int n), some (f2, .lst (cs.map .int)), s3, some (f4, .lst ds), s5, s6, s7, some (f8, .lst p), s9, s10] ∧ 1 ≤ f8 ∧ ds.length = cs.length ∧ (∀ d ∈ ds, Row d) ∧ Pool k p
theorem pool_turn {ns cs : List Int} {n : Int} (hcs : cs.length ≤ 63) (hc0 : 0 < cs.length) {k : Nat} {d : D} {e : Ev} (hk : k < 100000) (hd : d = .int (0 + k * 1)) (h : I3 ns cs n k e) :
    ∃ e1, gN 9 d e = some e1 ∧ ∃ e2, (vSeq (vSet 10 (v2 (gIC (fun _ j => decide (0 < j)) fun i j => .int (i % j)) (vCall (g1 gInt) (vCons (vName 9) (fun _ => some []))) (vCall (g1 gLen) (vCons (vName 2) (fun _ => some [])))))
  (vSeq (vSet 7 (v2 (gIC (fun _ j => decide (0 < j) && decide (j < 1073741824)) fun i j => .int (i / j)) (vName 9) (vCall (g1 gLen) (vCons (vName 2) (fun _ => some [])))))
  (vIfS (tB_ (v2 (gI fun i j => .bl (decide (i < j))) (vName 7) (vCall (g1 gLen) (vCons (v2 gIx (vName 4) (vName 10)) (fun _ => some []))))) (vApp 8 (v2 gIx (v2 gIx (vName 4) (vName 10)) (vName 7))) (vApp 8 (vCallF c_law_mixed (vCons (v2 gAdd (v2 (gIC (fun _ j => decide (0 < j)) fun i j => .int (i % j)) (vCall (g1 gInt) (vCons (v2 gIx (vName 2) (vName 10)) (fun _ => some []))) (vC (.int 1000003))) (v2 gMul (vC (.int 7919)) (vName 10))) (vCons (v2 gAdd (vName 7) (vC (.int 1))) (fun _ => some [])))))))) e1 = .nx e2 ∧ I3 ns cs n (k + 1) e2 := by
  subst hd
  obtain ⟨s3, f4, ds, s5, s6, s7, f2, f8, p, s9, s10, rfl, h1, h2, h3, h4⟩ := h
  have q1 : (0 : Int) < cs.length := by omega
  have q2 : (cs.length : Int) < 1073741824 := by omega
  have hne : cs ≠ [] := by intro z; subst z; exact absurd hc0 (by decide)
  have hi : (0 : Int) + k * 1 = k := by omega
  have a0 : 0 ≤ (k : Int) % cs.length := Int.emod_nonneg _ (by omega)
  have a1 : (k : Int) % cs.length < cs.length := Int.emod_lt_of_pos _ q1
  have b0 : 0 ≤ (k : Int) / cs.length := Int.ediv_nonneg (by omega) (by omega)
  obtain ⟨dr, er, hr⟩ := atI_ok (p := ds) a0 (by rw [h2]; exact a1)
  obtain ⟨m, rw_, rfl, hm, hp⟩ := h3 dr hr
  obtain ⟨c, ec⟩ := atI_ints a0 a1
  have hl : p.length < 16777216 := by rw [h4.1]; omega
  generalize ht : (k : Int) % cs.length = t at a0 a1 er ec
  generalize hu : (k : Int) / cs.length = u at b0
  rw [hi]
  refine ⟨[some (0, .scr ns), some (0, .int n), some (f2, .lst (cs.map .int)), s3, some (f4, .lst ds), s5, s6, s7, some (f8, .lst p), some (0, .int k), s10], by simp [VL.vDef, VL.env0, VL.vSeq, VL.vSet, VL.put, VL.frz, VL.thaw, VL.vName, VL.nrm, VL.noMut, VL.noMutL, VL.v2, VL.v1, VL.vC, VL.gIC, VL.gI, VL.gAdd, VL.gMul, VL.cMul, VL.vCons, VL.vCall, VL.g1, VL.gInt, VL.gLen, VL.gAbs, VL.vRet, VL.vRetName, VL.vIfS, VL.tB_, VL.tV, VL.vLst, VL.vTup, VL.lstRv, VL.gridChild, VL.isFlat, VL.dsOf, VL.alOf, VL.mkL, VL.gCat, VL.gCatT, VL.gCatS, VL.gIx, VL.gIxA, VL.atD, VL.gEq, VL.gIsN, VL.gIsB, VL.gIsi, VL.isiD, VL.vAnd, VL.vOr, VL.vNot, VL.truD, VL.tNot_, VL.tAnd_, VL.tOr_, VL.vNeg, VL.vCallF, VL.frRv, VL.vFor, VL.loopV, VL.gN, VL.iRange1, VL.upTo, VL.rngOk, VL.vComp, VL.compV, VL.compRv, VL.wipeE, VL.iSeq, VL.itemsD, VL.gStr, VL.gStrC, VL.gIntA, VL.vSplit, VL.vJoin, VL.itemsOf, VL.gTuple, VL.gList, VL.vApp, VL.chg, VL.notIn, VL.gIxK, VL.gInK, VL.lookD, VL.vAug], ?_⟩
  refine seqP (P := fun r => ∃ e2, r = .nx e2 ∧ I3 ns cs n (k + 1) e2) (e := [some (0, .scr ns), some (0, .int n), some (f2, .lst (cs.map .int)), s3, some (f4, .lst ds), s5, s6, s7, some (f8, .lst p), some (0, .int k), some (2, .int t)]) (by simp [VL.vDef, VL.env0, VL.vSeq, VL.vSet, VL.put, VL.frz, VL.thaw, VL.vName, VL.nrm, VL.noMut, VL.noMutL, VL.v2, VL.v1, VL.vC, VL.gIC, VL.gI, VL.gAdd, VL.gMul, VL.cMul, VL.vCons, VL.vCall, VL.g1, VL.gInt, VL.gLen, VL.gAbs, VL.vRet, VL.vRetName, VL.vIfS, VL.tB_, VL.tV, VL.vLst, VL.vTup, VL.lstRv, VL.gridChild, VL.isFlat, VL.dsOf, VL.alOf, VL.mkL, VL.gCat, VL.gCatT, VL.gCatS, VL.gIx, VL.gIxA, VL.atD, VL.gEq, VL.gIsN, VL.gIsB, VL.gIsi, VL.isiD, VL.vAnd, VL.vOr, VL.vNot, VL.truD, VL.tNot_, VL.tAnd_, VL.tOr_, VL.vNeg, VL.vCallF, VL.frRv, VL.vFor, VL.loopV, VL.gN, VL.iRange1, VL.upTo, VL.rngOk, VL.vComp, VL.compV, VL.compRv, VL.wipeE, VL.iSeq, VL.itemsD, VL.gStr, VL.gStrC, VL.gIntA, VL.vSplit, VL.vJoin, VL.itemsOf, VL.gTuple, VL.gList, VL.vApp, VL.chg, VL.notIn, VL.gIxK, VL.gInK, VL.lookD, VL.vAug, q1, hc0, hne, ht]) ?_
  refine seqP (P := fun r => ∃ e2, r = .nx e2 ∧ I3 ns cs n (k + 1) e2) (e := [some (0, .scr ns), some (0, .int n), some (f2, .lst (cs.map .int)), s3, some (f4, .lst ds), s5, s6, some (2, .int u), some (f8, .lst p), some (0, .int k), some (2, .int t)]) (by simp [VL.vDef, VL.env0, VL.vSeq, VL.vSet, VL.put, VL.frz, VL.thaw, VL.vName, VL.nrm, VL.noMut, VL.noMutL, VL.v2, VL.v1, VL.vC, VL.gIC, VL.gI, VL.gAdd, VL.gMul, VL.cMul, VL.vCons, VL.vCall, VL.g1, VL.gInt, VL.gLen, VL.gAbs, VL.vRet, VL.vRetName, VL.vIfS, VL.tB_, VL.tV, VL.vLst, VL.vTup, VL.lstRv, VL.gridChild, VL.isFlat, VL.dsOf, VL.alOf, VL.mkL, VL.gCat, VL.gCatT, VL.gCatS, VL.gIx, VL.gIxA, VL.atD, VL.gEq, VL.gIsN, VL.gIsB, VL.gIsi, VL.isiD, VL.vAnd, VL.vOr, VL.vNot, VL.truD, VL.tNot_, VL.tAnd_, VL.tOr_, VL.vNeg, VL.vCallF, VL.frRv, VL.vFor, VL.loopV, VL.gN, VL.iRange1, VL.upTo, VL.rngOk, VL.vComp, VL.compV, VL.compRv, VL.wipeE, VL.iSeq, VL.itemsD, VL.gStr, VL.gStrC, VL.gIntA, VL.vSplit, VL.vJoin, VL.itemsOf, VL.gTuple, VL.gList, VL.vApp, VL.chg, VL.notIn, VL.gIxK, VL.gInK, VL.lookD, VL.vAug, q1, q2, hc0, hne, hu]) ?_
  have fin : ∀ z : Int, 0 ≤ z → z < 1000 → ∃ e2, Rs.nx [some (0, .scr ns), some (0, .int n), some (f2, .lst (cs.map .int)), s3, some (f4, .lst ds), s5, s6, some (2, .int u), some (1, .lst (p ++ [.int z])), some (0, .int k), some (2, .int t)] = .nx e2 ∧ I3 ns cs n (k + 1) e2 := fun z z0 z1 =>
    ⟨_, rfl, _, _, _, _, _, _, _, _, _, _, _, rfl, Nat.le_refl _, h2, h3, row_add h4 z0 z1⟩
  by_cases hlt : u < (rw_.length : Int)
  · rw [ifT (by simp [VL.vDef, VL.env0, VL.vSeq, VL.vSet, VL.put, VL.frz, VL.thaw, VL.vName, VL.nrm, VL.noMut, VL.noMutL, VL.v2, VL.v1, VL.vC, VL.gIC, VL.gI, VL.gAdd, VL.gMul, VL.cMul, VL.vCons, VL.vCall, VL.g1, VL.gInt, VL.gLen, VL.gAbs, VL.vRet, VL.vRetName, VL.vIfS, VL.tB_, VL.tV, VL.vLst, VL.vTup, VL.lstRv, VL.gridChild, VL.isFlat, VL.dsOf, VL.alOf, VL.mkL, VL.gCat, VL.gCatT, VL.gCatS, VL.gIx, VL.gIxA, VL.atD, VL.gEq, VL.gIsN, VL.gIsB, VL.gIsi, VL.isiD, VL.vAnd, VL.vOr, VL.vNot, VL.truD, VL.tNot_, VL.tAnd_, VL.tOr_, VL.vNeg, VL.vCallF, VL.frRv, VL.vFor, VL.loopV, VL.gN, VL.iRange1, VL.upTo, VL.rngOk, VL.vComp, VL.compV, VL.compRv, VL.wipeE, VL.iSeq, VL.itemsD, VL.gStr, VL.gStrC, VL.gIntA, VL.vSplit, VL.vJoin, VL.itemsOf, VL.gTuple, VL.gList, VL.vApp, VL.chg, VL.notIn, VL.gIxK, VL.gInK, VL.lookD, VL.vAug, er, hlt])]
    obtain ⟨z, ez, z0, z1⟩ := hp.at_ (i := u) b0 (by rw [← hp.1]; exact hlt)
    have e1 : vApp 8 (v2 gIx (v2 gIx (vName 4) (vName 10)) (vName 7)) [some (0, .scr ns), some (0, .int n), some (f2, .lst (cs.map .int)), s3, some (f4, .lst ds), s5, s6, some (2, .int u), some (f8, .lst p), some (0, .int k), some (2, .int t)]
        = .nx [some (0, .scr ns), some (0, .int n), some (f2, .lst (cs.map .int)), s3, some (f4, .lst ds), s5, s6, some (2, .int u), some (1, .lst (p ++ [.int z])), some (0, .int k), some (2, .int t)] := by
      cases hn : noMutL rw_ <;> simp [VL.vDef, VL.env0, VL.vSeq, VL.vSet, VL.put, VL.frz, VL.thaw, VL.vName, VL.nrm, VL.noMut, VL.noMutL, VL.v2, VL.v1, VL.vC, VL.gIC, VL.gI, VL.gAdd, VL.gMul, VL.cMul, VL.vCons, VL.vCall, VL.g1, VL.gInt, VL.gLen, VL.gAbs, VL.vRet, VL.vRetName, VL.vIfS, VL.tB_, VL.tV, VL.vLst, VL.vTup, VL.lstRv, VL.gridChild, VL.isFlat, VL.dsOf, VL.alOf, VL.mkL, VL.gCat, VL.gCatT, VL.gCatS, VL.gIx, VL.gIxA, VL.atD, VL.gEq, VL.gIsN, VL.gIsB, VL.gIsi, VL.isiD, VL.vAnd, VL.vOr, VL.vNot, VL.truD, VL.tNot_, VL.tAnd_, VL.tOr_, VL.vNeg, VL.vCallF, VL.frRv, VL.vFor, VL.loopV, VL.gN, VL.iRange1, VL.upTo, VL.rngOk, VL.vComp, VL.compV, VL.compRv, VL.wipeE, VL.iSeq, VL.itemsD, VL.gStr, VL.gStrC, VL.gIntA, VL.vSplit, VL.vJoin, VL.itemsOf, VL.gTuple, VL.gList, VL.vApp, VL.chg, VL.notIn, VL.gIxK, VL.gInK, VL.lookD, VL.vAug, er, ez, h1, hl, hn]
    rw [e1]
    exact fin z z0 z1
  · rw [ifF (by simp [VL.vDef, VL.env0, VL.vSeq, VL.vSet, VL.put, VL.frz, VL.thaw, VL.vName, VL.nrm, VL.noMut, VL.noMutL, VL.v2, VL.v1, VL.vC, VL.gIC, VL.gI, VL.gAdd, VL.gMul, VL.cMul, VL.vCons, VL.vCall, VL.g1, VL.gInt, VL.gLen, VL.gAbs, VL.vRet, VL.vRetName, VL.vIfS, VL.tB_, VL.tV, VL.vLst, VL.vTup, VL.lstRv, VL.gridChild, VL.isFlat, VL.dsOf, VL.alOf, VL.mkL, VL.gCat, VL.gCatT, VL.gCatS, VL.gIx, VL.gIxA, VL.atD, VL.gEq, VL.gIsN, VL.gIsB, VL.gIsi, VL.isiD, VL.vAnd, VL.vOr, VL.vNot, VL.truD, VL.tNot_, VL.tAnd_, VL.tOr_, VL.vNeg, VL.vCallF, VL.frRv, VL.vFor, VL.loopV, VL.gN, VL.iRange1, VL.upTo, VL.rngOk, VL.vComp, VL.compV, VL.compRv, VL.wipeE, VL.iSeq, VL.itemsD, VL.gStr, VL.gStrC, VL.gIntA, VL.vSplit, VL.vJoin, VL.itemsOf, VL.gTuple, VL.gList, VL.vApp, VL.chg, VL.notIn, VL.gIxK, VL.gInK, VL.lookD, VL.vAug, er, hlt])]
    obtain ⟨z, ez, z0, z1⟩ := e_mixed (c % 1000003 + 7919 * t) (u + 1)
    have e1 : (vApp 8 (vCallF c_law_mixed (vCons (v2 gAdd (v2 (gIC (fun _ j => decide (0 < j)) fun i j => .int (i % j)) (vCall (g1 gInt) (vCons (v2 gIx (vName 2) (vName 10)) (fun _ => some []))) (vC (.int 1000003))) (v2 gMul (vC (.int 7919)) (vName 10))) (vCons (v2 gAdd (vName 7) (vC (.int 1))) (fun _ => some []))))) [some (0, .scr ns), some (0, .int n), some (f2, .lst (cs.map .int)), s3, some (f4, .lst ds), s5, s6, some (2, .int u), some (f8, .lst p), some (0, .int k), some (2, .int t)]
        = .nx [some (0, .scr ns), some (0, .int n), some (f2, .lst (cs.map .int)), s3, some (f4, .lst ds), s5, s6, some (2, .int u), some (1, .lst (p ++ [.int z])), some (0, .int k), some (2, .int t)] := by
      simp [VL.vDef, VL.env0, VL.vSeq, VL.vSet, VL.put, VL.frz, VL.thaw, VL.vName, VL.nrm, VL.noMut, VL.noMutL, VL.v2, VL.v1, VL.vC, VL.gIC, VL.gI, VL.gAdd, VL.gMul, VL.cMul, VL.vCons, VL.vCall, VL.g1, VL.gInt, VL.gLen, VL.gAbs, VL.vRet, VL.vRetName, VL.vIfS, VL.tB_, VL.tV, VL.vLst, VL.vTup, VL.lstRv, VL.gridChild, VL.isFlat, VL.dsOf, VL.alOf, VL.mkL, VL.gCat, VL.gCatT, VL.gCatS, VL.gIx, VL.gIxA, VL.atD, VL.gEq, VL.gIsN, VL.gIsB, VL.gIsi, VL.isiD, VL.vAnd, VL.vOr, VL.vNot, VL.truD, VL.tNot_, VL.tAnd_, VL.tOr_, VL.vNeg, VL.vCallF, VL.frRv, VL.vFor, VL.loopV, VL.gN, VL.iRange1, VL.upTo, VL.rngOk, VL.vComp, VL.compV, VL.compRv, VL.wipeE, VL.iSeq, VL.itemsD, VL.gStr, VL.gStrC, VL.gIntA, VL.vSplit, VL.vJoin, VL.itemsOf, VL.gTuple, VL.gList, VL.vApp, VL.chg, VL.notIn, VL.gIxK, VL.gInK, VL.lookD, VL.vAug, ec, ez, h1, hl]
    rw [e1]
    exact fin z z0 z1
theorem e_pool {ns : List Int} (hns : ns.length ≤ 63) {n : Nat} (hn : n ≤ 100000) : ∃ p l, c_law_pool [.scr ns, .int n] = .ok (.lst p) l ∧ Pool n p := by
  suffices h : ∃ p l, b_law_pool [some (0, .scr ns), some (0, .int n), none, none, none, none, none, none, none, none, none] = .ret (.lst p) l ∧ Pool n p by
    obtain ⟨p, l, h1, h2⟩ := h
    exact ⟨p, l, def_ret h1, h2⟩
  show (fun r => ∃ p l, r = .ret (.lst p) l ∧ Pool n p) (b_law_pool _)
  have hcl : ((cutD ns none (some 63)).map fun n => if n < 0 then -n else n).length ≤ 63 := by
    rw [List.length_map]; unfold cutD
    rw [List.length_take, List.length_drop]; omega
  unfold b_law_pool
  refine seqP (P := fun r => ∃ p l, r = .ret (.lst p) l ∧ Pool n p) (e := [some (0, .scr ns), some (0, .int n), some (2, .lst (((cutD ns none (some 63)).map fun n => if n < 0 then -n else n).map .int)), none, none, none, none, none, none, none, none]) ?_ ?_
  · have hl : (cutD ns none (some 63)).length ≤ 16777216 := by
      rw [List.length_map] at hcl; omega
    have hc := comp_abs [some (0, .scr ns), some (0, .int n), none, none, none, none, none, none, none, none, none] (by simp) (cutD ns none (some 63))
    unfold vSet vComp
    have hi : iSeq (vSlice (vName 0) (fun _ => some none) (vPart (vC (.int 63)))) [some (0, .scr ns), some (0, .int n), none, none, none, none, none, none, none, none, none] = some ((cutD ns none (some 63)).map D.int, []) := by
      simp [VL.vDef, VL.env0, VL.vSeq, VL.vSet, VL.put, VL.frz, VL.thaw, VL.vName, VL.nrm, VL.noMut, VL.noMutL, VL.v2, VL.v1, VL.vC, VL.gIC, VL.gI, VL.gAdd, VL.gMul, VL.cMul, VL.vCons, VL.vCall, VL.g1, VL.gInt, VL.gLen, VL.gAbs, VL.vRet, VL.vRetName, VL.vIfS, VL.tB_, VL.tV, VL.vLst, VL.vTup, VL.lstRv, VL.gridChild, VL.isFlat, VL.dsOf, VL.alOf, VL.mkL, VL.gCat, VL.gCatT, VL.gCatS, VL.gIx, VL.gIxA, VL.atD, VL.gEq, VL.gIsN, VL.gIsB, VL.gIsi, VL.isiD, VL.vAnd, VL.vOr, VL.vNot, VL.truD, VL.tNot_, VL.tAnd_, VL.tOr_, VL.vNeg, VL.vCallF, VL.frRv, VL.vFor, VL.loopV, VL.gN, VL.iRange1, VL.upTo, VL.rngOk, VL.vComp, VL.compV, VL.compRv, VL.wipeE, VL.iSeq, VL.itemsD, VL.gStr, VL.gStrC, VL.gIntA, VL.vSplit, VL.vJoin, VL.itemsOf, VL.gTuple, VL.gList, VL.vApp, VL.chg, VL.notIn, VL.gIxK, VL.gInK, VL.lookD, VL.vAug, vSlice, vPart, hl]
    rw [hi]
    dsimp only
    show (match (match compV (gN 3) (fun _ => some true) (vCall (g1 gAbs) (vCons (vCall (g1 gInt) (vCons (vName 3) (fun _ => some []))) (fun _ => some []))) [some (0, .scr ns), some (0, .int n), none, none, none, none, none, none, none, none, none] ((cutD ns none (some 63)).map D.int) with
      | some rs => some (compRv 11 rs)
      | none => none) with
      | some r => _
      | none => _) = _
    rw [hc]
    dsimp only
    rw [rv_all]
    rfl
  generalize ((cutD ns none (some 63)).map fun n => if n < 0 then -n else n) = cs at hcl
  have two : ∃ cs' : List Int, vIfS (tB_ (v2 (gEq false) (vName 2) (vLst (fun _ => some [])))) (vSet 2 (vLst (vCons (vC (.int 0)) (fun _ => some [])))) ((fun e => .nx e)) [some (0, .scr ns), some (0, .int n), some (2, .lst (cs.map .int)), none, none, none, none, none, none, none, none] = .nx [some (0, .scr ns), some (0, .int n), some (2, .lst (cs'.map .int)), none, none, none, none, none, none, none, none] ∧ 0 < cs'.length ∧ cs'.length ≤ 63 := by
    cases cs with
    | nil =>
      have e0 : eqD (.lst []) (.lst []) = some true := eqD_nil []
      exact ⟨[0], by simp [VL.vDef, VL.env0, VL.vSeq, VL.vSet, VL.put, VL.frz, VL.thaw, VL.vName, VL.nrm, VL.noMut, VL.noMutL, VL.v2, VL.v1, VL.vC, VL.gIC, VL.gI, VL.gAdd, VL.gMul, VL.cMul, VL.vCons, VL.vCall, VL.g1, VL.gInt, VL.gLen, VL.gAbs, VL.vRet, VL.vRetName, VL.vIfS, VL.tB_, VL.tV, VL.vLst, VL.vTup, VL.lstRv, VL.gridChild, VL.isFlat, VL.dsOf, VL.alOf, VL.mkL, VL.gCat, VL.gCatT, VL.gCatS, VL.gIx, VL.gIxA, VL.atD, VL.gEq, VL.gIsN, VL.gIsB, VL.gIsi, VL.isiD, VL.vAnd, VL.vOr, VL.vNot, VL.truD, VL.tNot_, VL.tAnd_, VL.tOr_, VL.vNeg, VL.vCallF, VL.frRv, VL.vFor, VL.loopV, VL.gN, VL.iRange1, VL.upTo, VL.rngOk, VL.vComp, VL.compV, VL.compRv, VL.wipeE, VL.iSeq, VL.itemsD, VL.gStr, VL.gStrC, VL.gIntA, VL.vSplit, VL.vJoin, VL.itemsOf, VL.gTuple, VL.gList, VL.vApp, VL.chg, VL.notIn, VL.gIxK, VL.gInK, VL.lookD, VL.vAug, e0], by decide, by decide⟩
    | cons c cs =>
      have e0 : eqD (.lst (.int c :: cs.map .int)) (.lst []) = some false := by
        have := eqD_nil (c :: cs)
        simpa using this
      exact ⟨c :: cs, by simp [VL.vDef, VL.env0, VL.vSeq, VL.vSet, VL.put, VL.frz, VL.thaw, VL.vName, VL.nrm, VL.noMut, VL.noMutL, VL.v2, VL.v1, VL.vC, VL.gIC, VL.gI, VL.gAdd, VL.gMul, VL.cMul, VL.vCons, VL.vCall, VL.g1, VL.gInt, VL.gLen, VL.gAbs, VL.vRet, VL.vRetName, VL.vIfS, VL.tB_, VL.tV, VL.vLst, VL.vTup, VL.lstRv, VL.gridChild, VL.isFlat, VL.dsOf, VL.alOf, VL.mkL, VL.gCat, VL.gCatT, VL.gCatS, VL.gIx, VL.gIxA, VL.atD, VL.gEq, VL.gIsN, VL.gIsB, VL.gIsi, VL.isiD, VL.vAnd, VL.vOr, VL.vNot, VL.truD, VL.tNot_, VL.tAnd_, VL.tOr_, VL.vNeg, VL.vCallF, VL.frRv, VL.vFor, VL.loopV, VL.gN, VL.iRange1, VL.upTo, VL.rngOk, VL.vComp, VL.compV, VL.compRv, VL.wipeE, VL.iSeq, VL.itemsD, VL.gStr, VL.gStrC, VL.gIntA, VL.vSplit, VL.vJoin, VL.itemsOf, VL.gTuple, VL.gList, VL.vApp, VL.chg, VL.notIn, VL.gIxK, VL.gInK, VL.lookD, VL.vAug, e0, noMut_ints], by simp, hcl⟩
  obtain ⟨cs', e2, c0, c63⟩ := two
  refine seqP (P := fun r => ∃ p l, r = .ret (.lst p) l ∧ Pool n p) (e := [some (0, .scr ns), some (0, .int n), some (2, .lst (cs'.map .int)), none, none, none, none, none, none, none, none]) e2 ?_
  refine seqP (P := fun r => ∃ p l, r = .ret (.lst p) l ∧ Pool n p) (e := [some (0, .scr ns), some (0, .int n), some (2, .lst (cs'.map .int)), none, some (2, .lst []), none, none, none, none, none, none]) (by simp [VL.vDef, VL.env0, VL.vSeq, VL.vSet, VL.put, VL.frz, VL.thaw, VL.vName, VL.nrm, VL.noMut, VL.noMutL, VL.v2, VL.v1, VL.vC, VL.gIC, VL.gI, VL.gAdd, VL.gMul, VL.cMul, VL.vCons, VL.vCall, VL.g1, VL.gInt, VL.gLen, VL.gAbs, VL.vRet, VL.vRetName, VL.vIfS, VL.tB_, VL.tV, VL.vLst, VL.vTup, VL.lstRv, VL.gridChild, VL.isFlat, VL.dsOf, VL.alOf, VL.mkL, VL.gCat, VL.gCatT, VL.gCatS, VL.gIx, VL.gIxA, VL.atD, VL.gEq, VL.gIsN, VL.gIsB, VL.gIsi, VL.isiD, VL.vAnd, VL.vOr, VL.vNot, VL.truD, VL.tNot_, VL.tAnd_, VL.tOr_, VL.vNeg, VL.vCallF, VL.frRv, VL.vFor, VL.loopV, VL.gN, VL.iRange1, VL.upTo, VL.rngOk, VL.vComp, VL.compV, VL.compRv, VL.wipeE, VL.iSeq, VL.itemsD, VL.gStr, VL.gStrC, VL.gIntA, VL.vSplit, VL.vJoin, VL.itemsOf, VL.gTuple, VL.gList, VL.vApp, VL.chg, VL.notIn, VL.gIxK, VL.gInK, VL.lookD, VL.vAug]) ?_
  refine seqQ (P := fun r => ∃ p l, r = .ret (.lst p) l ∧ Pool n p) ?_
  obtain ⟨e3, h3, i3⟩ := forI (it := iSeq (vName 2)) (g := gN 3) (env := [some (0, .scr ns), some (0, .int n), some (2, .lst (cs'.map .int)), none, some (2, .lst []), none, none, none, none, none, none])
    (body := _) (I1 ns cs' n) (ds := cs'.map .int) (al := [2]) (by
      have hl : cs'.length ≤ 16777216 := by omega
      simp [VL.vDef, VL.env0, VL.vSeq, VL.vSet, VL.put, VL.frz, VL.thaw, VL.vName, VL.nrm, VL.noMut, VL.noMutL, VL.v2, VL.v1, VL.vC, VL.gIC, VL.gI, VL.gAdd, VL.gMul, VL.cMul, VL.vCons, VL.vCall, VL.g1, VL.gInt, VL.gLen, VL.gAbs, VL.vRet, VL.vRetName, VL.vIfS, VL.tB_, VL.tV, VL.vLst, VL.vTup, VL.lstRv, VL.gridChild, VL.isFlat, VL.dsOf, VL.alOf, VL.mkL, VL.gCat, VL.gCatT, VL.gCatS, VL.gIx, VL.gIxA, VL.atD, VL.gEq, VL.gIsN, VL.gIsB, VL.gIsi, VL.isiD, VL.vAnd, VL.vOr, VL.vNot, VL.truD, VL.tNot_, VL.tAnd_, VL.tOr_, VL.vNeg, VL.vCallF, VL.frRv, VL.vFor, VL.loopV, VL.gN, VL.iRange1, VL.upTo, VL.rngOk, VL.vComp, VL.compV, VL.compRv, VL.wipeE, VL.iSeq, VL.itemsD, VL.gStr, VL.gStrC, VL.gIntA, VL.vSplit, VL.vJoin, VL.itemsOf, VL.gTuple, VL.gList, VL.vApp, VL.chg, VL.notIn, VL.gIxK, VL.gInK, VL.lookD, VL.vAug, hl]) ⟨none, 2, [], none, none, none, 0, rfl, by decide, rfl, fun d hd => by cases hd⟩ (fun j d e hj hi => by
      have hj2 : j < cs'.length := by
        have := (List.getElem?_eq_some_iff.mp hj).1
        rwa [List.length_map] at this
      exact pool_digits c63 (by omega) (by
        obtain ⟨c, _, rfl⟩ := List.mem_map.mp (List.mem_of_getElem? hj)
        exact ⟨c, rfl⟩) hi)
  refine ⟨e3, h3, ?_⟩
  rw [List.length_map] at i3
  obtain ⟨s3, fl, ds, s5, s6, s7, f2, rfl, a1, a2, a3⟩ := i3
  refine seqP (P := fun r => ∃ p l, r = .ret (.lst p) l ∧ Pool n p) (e := [some (0, .scr ns), some (0, .int n), some (f2, .lst (cs'.map .int)), s3, some (fl, .lst ds), s5, s6, s7, some (2, .lst []), none, none]) (by simp [VL.vDef, VL.env0, VL.vSeq, VL.vSet, VL.put, VL.frz, VL.thaw, VL.vName, VL.nrm, VL.noMut, VL.noMutL, VL.v2, VL.v1, VL.vC, VL.gIC, VL.gI, VL.gAdd, VL.gMul, VL.cMul, VL.vCons, VL.vCall, VL.g1, VL.gInt, VL.gLen, VL.gAbs, VL.vRet, VL.vRetName, VL.vIfS, VL.tB_, VL.tV, VL.vLst, VL.vTup, VL.lstRv, VL.gridChild, VL.isFlat, VL.dsOf, VL.alOf, VL.mkL, VL.gCat, VL.gCatT, VL.gCatS, VL.gIx, VL.gIxA, VL.atD, VL.gEq, VL.gIsN, VL.gIsB, VL.gIsi, VL.isiD, VL.vAnd, VL.vOr, VL.vNot, VL.truD, VL.tNot_, VL.tAnd_, VL.tOr_, VL.vNeg, VL.vCallF, VL.frRv, VL.vFor, VL.loopV, VL.gN, VL.iRange1, VL.upTo, VL.rngOk, VL.vComp, VL.compV, VL.compRv, VL.wipeE, VL.iSeq, VL.itemsD, VL.gStr, VL.gStrC, VL.gIntA, VL.vSplit, VL.vJoin, VL.itemsOf, VL.gTuple, VL.gList, VL.vApp, VL.chg, VL.notIn, VL.gIxK, VL.gInK, VL.lookD, VL.vAug]) ?_
  refine seqQ (P := fun r => ∃ p l, r = .ret (.lst p) l ∧ Pool n p) ?_
  have r1 : -16777216 ≤ (n : Int) := by omega
  have r2 : (n : Int) ≤ 16777216 := by omega
  obtain ⟨e4, h4, i4⟩ := forI (it := iRange1 (vCons (vName 1) (fun _ => some []))) (g := gN 9) (env := [some (0, .scr ns), some (0, .int n), some (f2, .lst (cs'.map .int)), s3, some (fl, .lst ds), s5, s6, s7, some (2, .lst []), none, none])
    (body := _) (I3 ns cs' n) (ds := upTo 0 1 n) (al := []) (by simp [VL.vDef, VL.env0, VL.vSeq, VL.vSet, VL.put, VL.frz, VL.thaw, VL.vName, VL.nrm, VL.noMut, VL.noMutL, VL.v2, VL.v1, VL.vC, VL.gIC, VL.gI, VL.gAdd, VL.gMul, VL.cMul, VL.vCons, VL.vCall, VL.g1, VL.gInt, VL.gLen, VL.gAbs, VL.vRet, VL.vRetName, VL.vIfS, VL.tB_, VL.tV, VL.vLst, VL.vTup, VL.lstRv, VL.gridChild, VL.isFlat, VL.dsOf, VL.alOf, VL.mkL, VL.gCat, VL.gCatT, VL.gCatS, VL.gIx, VL.gIxA, VL.atD, VL.gEq, VL.gIsN, VL.gIsB, VL.gIsi, VL.isiD, VL.vAnd, VL.vOr, VL.vNot, VL.truD, VL.tNot_, VL.tAnd_, VL.tOr_, VL.vNeg, VL.vCallF, VL.frRv, VL.vFor, VL.loopV, VL.gN, VL.iRange1, VL.upTo, VL.rngOk, VL.vComp, VL.compV, VL.compRv, VL.wipeE, VL.iSeq, VL.itemsD, VL.gStr, VL.gStrC, VL.gIntA, VL.vSplit, VL.vJoin, VL.itemsOf, VL.gTuple, VL.gList, VL.vApp, VL.chg, VL.notIn, VL.gIxK, VL.gInK, VL.lookD, VL.vAug, r1, r2]) ⟨s3, fl, ds, s5, s6, s7, f2, 2, [], none, none, rfl, by decide, a2, a3, pool_nil⟩ (fun j d e hj hi => by
      obtain ⟨hj90, rfl⟩ := upTo_at hj
      exact pool_turn c63 c0 (by omega) rfl hi)
  refine ⟨e4, h4, ?_⟩
  rw [upTo_length] at i4
  obtain ⟨s3, f4, ds, s5, s6, s7, f2, f8, p, s9, s10, rfl, b1, b2, b3, b4⟩ := i4
  exact ⟨p, f8, by simp [VL.vDef, VL.env0, VL.vSeq, VL.vSet, VL.put, VL.frz, VL.thaw, VL.vName, VL.nrm, VL.noMut, VL.noMutL, VL.v2, VL.v1, VL.vC, VL.gIC, VL.gI, VL.gAdd, VL.gMul, VL.cMul, VL.vCons, VL.vCall, VL.g1, VL.gInt, VL.gLen, VL.gAbs, VL.vRet, VL.vRetName, VL.vIfS, VL.tB_, VL.tV, VL.vLst, VL.vTup, VL.lstRv, VL.gridChild, VL.isFlat, VL.dsOf, VL.alOf, VL.mkL, VL.gCat, VL.gCatT, VL.gCatS, VL.gIx, VL.gIxA, VL.atD, VL.gEq, VL.gIsN, VL.gIsB, VL.gIsi, VL.isiD, VL.vAnd, VL.vOr, VL.vNot, VL.truD, VL.tNot_, VL.tAnd_, VL.tOr_, VL.vNeg, VL.vCallF, VL.frRv, VL.vFor, VL.loopV, VL.gN, VL.iRange1, VL.upTo, VL.rngOk, VL.vComp, VL.compV, VL.compRv, VL.wipeE, VL.iSeq, VL.itemsD, VL.gStr, VL.gStrC, VL.gIntA, VL.vSplit, VL.vJoin, VL.itemsOf, VL.gTuple, VL.gList, VL.vApp, VL.chg, VL.notIn, VL.gIxK, VL.gInK, VL.lookD, VL.vAug], b4⟩
end VL

namespace VL
open PySem
inductive Mv where
  | enter (a : Int) | pass (a b : Int) | swap (a b c d : Int)
def Mv.d : Mv → D
  | .enter a => .tup [.str "enter", .int a]
  | .pass a b => .tup [.str "pass", .int a, .int b]
  | .swap a b c d => .tup [.str "swap", .int a, .int b, .int c, .int d]
def sm (a : Int) : Prop := 0 ≤ a ∧ a < 100
def Mv.ok : Mv → Prop
  | .enter a => sm a
  | .pass a b => sm a ∧ sm b
  | .swap a b c d => sm a ∧ sm b ∧ sm c ∧ sm d
def IM (p : List D) (start many : Int) (k : Nat) (e : Ev) : Prop := ∃ (fl : Nat) (ms : List Mv) (s4 s5 s6 s7 s8 s9 : Slot), e = [some (0, .lst p), some (0, .int start), some (0, .int many), some (fl, .lst (ms.map Mv.d)), s4, s5, s6, s7, s8, s9] ∧ 1 ≤ fl ∧ ms.length = k ∧ ∀ m ∈ ms, Mv.ok m
theorem sm_of {a : Int} {b : Int} (h : b = 10 ∨ b = 100) : sm (a % b) := by
  rcases h with rfl | rfl
  · exact ⟨Int.emod_nonneg _ (by decide), by have := Int.emod_lt_of_pos a (b := 10) (by decide); omega⟩
  · exact ⟨Int.emod_nonneg _ (by decide), Int.emod_lt_of_pos a (b := 100) (by decide)⟩
theorem atI_two (j : Int) : ∃ b, L2.atI [D.int 10, D.int 100] (j % 2) = some (.int b) ∧ (b = 10 ∨ b = 100) ∧ 0 < b := by
  rcases Int.emod_two_eq j with h | h
  · exact ⟨10, by rw [h]; rfl, .inl rfl, by decide⟩
  · exact ⟨100, by rw [h]; rfl, .inr rfl, by decide⟩
theorem noMutL_mv : ∀ ms : List Mv, noMutL (ms.map Mv.d) = true
  | [] => rfl
  | m :: ms => by
    rw [List.map_cons, noMutL, noMutL_mv ms]
    cases m <;> rfl
theorem e_moves {n : Nat} {p : List D} (h : Pool n p) {start : Int} {many : Nat} (h0 : 0 ≤ start) (h1 : start + 6 * many ≤ n) (h2 : many ≤ 1000) :
    ∃ d l, c_law_moves [.lst p, .int start, .int many] = .ok d l ∧ ∃ ms : List Mv, d = .lst (ms.map Mv.d) ∧ ms.length = many ∧ (∀ m ∈ ms, m.ok) ∧ 1 ≤ l := by
  refine En.defI ?_
  show En (b_law_moves [some (0, .lst p), some (0, .int start), some (0, .int many), none, none, none, none, none, none, none]) _
  unfold b_law_moves
  have r1 : -16777216 ≤ (many : Int) := by omega
  have r2 : (many : Int) ≤ 16777216 := by omega
  refine En.seq (by (simp [VL.vDef, VL.env0, VL.vSeq, VL.vSet, VL.put, VL.frz, VL.thaw, VL.vName, VL.nrm, VL.noMut, VL.noMutL, VL.v2, VL.v1, VL.vC, VL.gIC, VL.gI, VL.gAdd, VL.gMul, VL.cMul, VL.vCons, VL.vCall, VL.g1, VL.gInt, VL.gLen, VL.gAbs, VL.vRet, VL.vRetName, VL.vIfS, VL.tB_, VL.tV, VL.vLst, VL.vTup, VL.lstRv, VL.gridChild, VL.isFlat, VL.dsOf, VL.alOf, VL.mkL, VL.gCat, VL.gCatT, VL.gCatS, VL.gIx, VL.gIxA, VL.atD, VL.gEq, VL.gIsN, VL.gIsB, VL.gIsi, VL.isiD, VL.vAnd, VL.vOr, VL.vNot, VL.truD, VL.tNot_, VL.tAnd_, VL.tOr_, VL.vNeg, VL.vCallF, VL.frRv, VL.vFor, VL.loopV, VL.gN, VL.iRange1, VL.upTo, VL.rngOk, VL.vComp, VL.compV, VL.compRv, VL.wipeE, VL.iSeq, VL.itemsD, VL.gStr, VL.gStrC, VL.gIntA, VL.vSplit, VL.vJoin, VL.itemsOf, VL.gTuple, VL.gList, VL.vApp, VL.chg, VL.notIn, VL.gIxK, VL.gInK, VL.lookD, VL.vAug] <;> first | exact rfl | exact ⟨rfl, rfl⟩ | exact ⟨rfl, rfl, rfl⟩)) ?_
  refine En.forI (IM p start many) (ds := upTo 0 1 many) (al := []) (by simp [VL.vDef, VL.env0, VL.vSeq, VL.vSet, VL.put, VL.frz, VL.thaw, VL.vName, VL.nrm, VL.noMut, VL.noMutL, VL.v2, VL.v1, VL.vC, VL.gIC, VL.gI, VL.gAdd, VL.gMul, VL.cMul, VL.vCons, VL.vCall, VL.g1, VL.gInt, VL.gLen, VL.gAbs, VL.vRet, VL.vRetName, VL.vIfS, VL.tB_, VL.tV, VL.vLst, VL.vTup, VL.lstRv, VL.gridChild, VL.isFlat, VL.dsOf, VL.alOf, VL.mkL, VL.gCat, VL.gCatT, VL.gCatS, VL.gIx, VL.gIxA, VL.atD, VL.gEq, VL.gIsN, VL.gIsB, VL.gIsi, VL.isiD, VL.vAnd, VL.vOr, VL.vNot, VL.truD, VL.tNot_, VL.tAnd_, VL.tOr_, VL.vNeg, VL.vCallF, VL.frRv, VL.vFor, VL.loopV, VL.gN, VL.iRange1, VL.upTo, VL.rngOk, VL.vComp, VL.compV, VL.compRv, VL.wipeE, VL.iSeq, VL.itemsD, VL.gStr, VL.gStrC, VL.gIntA, VL.vSplit, VL.vJoin, VL.itemsOf, VL.gTuple, VL.gList, VL.vApp, VL.chg, VL.notIn, VL.gIxK, VL.gInK, VL.lookD, VL.vAug, r1, r2]) ⟨2, [], none, none, none, none, none, none, rfl, by decide, rfl, fun _ z => by cases z⟩ (fun j d e hj hi => ?_) (fun e hi => ?_)
  · obtain ⟨hj1, rfl⟩ := upTo_at hj
    obtain ⟨fl, ms, s4, s5, s6, s7, s8, s9, rfl, a1, a2, a3⟩ := hi
    refine ⟨_, by (simp [VL.vDef, VL.env0, VL.vSeq, VL.vSet, VL.put, VL.frz, VL.thaw, VL.vName, VL.nrm, VL.noMut, VL.noMutL, VL.v2, VL.v1, VL.vC, VL.gIC, VL.gI, VL.gAdd, VL.gMul, VL.cMul, VL.vCons, VL.vCall, VL.g1, VL.gInt, VL.gLen, VL.gAbs, VL.vRet, VL.vRetName, VL.vIfS, VL.tB_, VL.tV, VL.vLst, VL.vTup, VL.lstRv, VL.gridChild, VL.isFlat, VL.dsOf, VL.alOf, VL.mkL, VL.gCat, VL.gCatT, VL.gCatS, VL.gIx, VL.gIxA, VL.atD, VL.gEq, VL.gIsN, VL.gIsB, VL.gIsi, VL.isiD, VL.vAnd, VL.vOr, VL.vNot, VL.truD, VL.tNot_, VL.tAnd_, VL.tOr_, VL.vNeg, VL.vCallF, VL.frRv, VL.vFor, VL.loopV, VL.gN, VL.iRange1, VL.upTo, VL.rngOk, VL.vComp, VL.compV, VL.compRv, VL.wipeE, VL.iSeq, VL.itemsD, VL.gStr, VL.gStrC, VL.gIntA, VL.vSplit, VL.vJoin, VL.itemsOf, VL.gTuple, VL.gList, VL.vApp, VL.chg, VL.notIn, VL.gIxK, VL.gInK, VL.lookD, VL.vAug] <;> first | exact rfl | exact ⟨rfl, rfl⟩ | exact ⟨rfl, rfl, rfl⟩), ?_⟩
    obtain ⟨v0, e0, _⟩ := h.at_ (i := start + 6 * j) (by omega) (by omega)
    obtain ⟨v1, e1, _⟩ := h.at_ (i := start + 6 * j + 1) (by omega) (by omega)
    obtain ⟨v2, e2, _⟩ := h.at_ (i := start + 6 * j + 1 + 1) (by omega) (by omega)
    obtain ⟨v3, e3, _⟩ := h.at_ (i := start + 6 * j + 1 + 2) (by omega) (by omega)
    obtain ⟨v4, e4, _⟩ := h.at_ (i := start + 6 * j + 1 + 3) (by omega) (by omega)
    obtain ⟨v5, e5, _⟩ := h.at_ (i := start + 6 * j + 5) (by omega) (by omega)
    obtain ⟨b, eb, hb, hb0⟩ := atI_two v5
    refine En.seq (by (simp [VL.vDef, VL.env0, VL.vSeq, VL.vSet, VL.put, VL.frz, VL.thaw, VL.vName, VL.nrm, VL.noMut, VL.noMutL, VL.v2, VL.v1, VL.vC, VL.gIC, VL.gI, VL.gAdd, VL.gMul, VL.cMul, VL.vCons, VL.vCall, VL.g1, VL.gInt, VL.gLen, VL.gAbs, VL.vRet, VL.vRetName, VL.vIfS, VL.tB_, VL.tV, VL.vLst, VL.vTup, VL.lstRv, VL.gridChild, VL.isFlat, VL.dsOf, VL.alOf, VL.mkL, VL.gCat, VL.gCatT, VL.gCatS, VL.gIx, VL.gIxA, VL.atD, VL.gEq, VL.gIsN, VL.gIsB, VL.gIsi, VL.isiD, VL.vAnd, VL.vOr, VL.vNot, VL.truD, VL.tNot_, VL.tAnd_, VL.tOr_, VL.vNeg, VL.vCallF, VL.frRv, VL.vFor, VL.loopV, VL.gN, VL.iRange1, VL.upTo, VL.rngOk, VL.vComp, VL.compV, VL.compRv, VL.wipeE, VL.iSeq, VL.itemsD, VL.gStr, VL.gStrC, VL.gIntA, VL.vSplit, VL.vJoin, VL.itemsOf, VL.gTuple, VL.gList, VL.vApp, VL.chg, VL.notIn, VL.gIxK, VL.gInK, VL.lookD, VL.vAug] <;> first | exact rfl | exact ⟨rfl, rfl⟩ | exact ⟨rfl, rfl, rfl⟩)) ?_
    refine En.seq (by (simp [VL.vDef, VL.env0, VL.vSeq, VL.vSet, VL.put, VL.frz, VL.thaw, VL.vName, VL.nrm, VL.noMut, VL.noMutL, VL.v2, VL.v1, VL.vC, VL.gIC, VL.gI, VL.gAdd, VL.gMul, VL.cMul, VL.vCons, VL.vCall, VL.g1, VL.gInt, VL.gLen, VL.gAbs, VL.vRet, VL.vRetName, VL.vIfS, VL.tB_, VL.tV, VL.vLst, VL.vTup, VL.lstRv, VL.gridChild, VL.isFlat, VL.dsOf, VL.alOf, VL.mkL, VL.gCat, VL.gCatT, VL.gCatS, VL.gIx, VL.gIxA, VL.atD, VL.gEq, VL.gIsN, VL.gIsB, VL.gIsi, VL.isiD, VL.vAnd, VL.vOr, VL.vNot, VL.truD, VL.tNot_, VL.tAnd_, VL.tOr_, VL.vNeg, VL.vCallF, VL.frRv, VL.vFor, VL.loopV, VL.gN, VL.iRange1, VL.upTo, VL.rngOk, VL.vComp, VL.compV, VL.compRv, VL.wipeE, VL.iSeq, VL.itemsD, VL.gStr, VL.gStrC, VL.gIntA, VL.vSplit, VL.vJoin, VL.itemsOf, VL.gTuple, VL.gList, VL.vApp, VL.chg, VL.notIn, VL.gIxK, VL.gInK, VL.lookD, VL.vAug, e5, eb] <;> first | exact rfl | exact ⟨rfl, rfl⟩ | exact ⟨rfl, rfl, rfl⟩)) ?_
    refine En.seq (by (simp [VL.vDef, VL.env0, VL.vSeq, VL.vSet, VL.put, VL.frz, VL.thaw, VL.vName, VL.nrm, VL.noMut, VL.noMutL, VL.v2, VL.v1, VL.vC, VL.gIC, VL.gI, VL.gAdd, VL.gMul, VL.cMul, VL.vCons, VL.vCall, VL.g1, VL.gInt, VL.gLen, VL.gAbs, VL.vRet, VL.vRetName, VL.vIfS, VL.tB_, VL.tV, VL.vLst, VL.vTup, VL.lstRv, VL.gridChild, VL.isFlat, VL.dsOf, VL.alOf, VL.mkL, VL.gCat, VL.gCatT, VL.gCatS, VL.gIx, VL.gIxA, VL.atD, VL.gEq, VL.gIsN, VL.gIsB, VL.gIsi, VL.isiD, VL.vAnd, VL.vOr, VL.vNot, VL.truD, VL.tNot_, VL.tAnd_, VL.tOr_, VL.vNeg, VL.vCallF, VL.frRv, VL.vFor, VL.loopV, VL.gN, VL.iRange1, VL.upTo, VL.rngOk, VL.vComp, VL.compV, VL.compRv, VL.wipeE, VL.iSeq, VL.itemsD, VL.gStr, VL.gStrC, VL.gIntA, VL.vSplit, VL.vJoin, VL.itemsOf, VL.gTuple, VL.gList, VL.vApp, VL.chg, VL.notIn, VL.gIxK, VL.gInK, VL.lookD, VL.vAug, e1, e2, e3, e4, hb0] <;> first | exact rfl | exact ⟨rfl, rfl⟩ | exact ⟨rfl, rfl, rfl⟩)) ?_
    refine En.seq (by (simp [VL.vDef, VL.env0, VL.vSeq, VL.vSet, VL.put, VL.frz, VL.thaw, VL.vName, VL.nrm, VL.noMut, VL.noMutL, VL.v2, VL.v1, VL.vC, VL.gIC, VL.gI, VL.gAdd, VL.gMul, VL.cMul, VL.vCons, VL.vCall, VL.g1, VL.gInt, VL.gLen, VL.gAbs, VL.vRet, VL.vRetName, VL.vIfS, VL.tB_, VL.tV, VL.vLst, VL.vTup, VL.lstRv, VL.gridChild, VL.isFlat, VL.dsOf, VL.alOf, VL.mkL, VL.gCat, VL.gCatT, VL.gCatS, VL.gIx, VL.gIxA, VL.atD, VL.gEq, VL.gIsN, VL.gIsB, VL.gIsi, VL.isiD, VL.vAnd, VL.vOr, VL.vNot, VL.truD, VL.tNot_, VL.tAnd_, VL.tOr_, VL.vNeg, VL.vCallF, VL.frRv, VL.vFor, VL.loopV, VL.gN, VL.iRange1, VL.upTo, VL.rngOk, VL.vComp, VL.compV, VL.compRv, VL.wipeE, VL.iSeq, VL.itemsD, VL.gStr, VL.gStrC, VL.gIntA, VL.vSplit, VL.vJoin, VL.itemsOf, VL.gTuple, VL.gList, VL.vApp, VL.chg, VL.notIn, VL.gIxK, VL.gInK, VL.lookD, VL.vAug, e0] <;> first | exact rfl | exact ⟨rfl, rfl⟩ | exact ⟨rfl, rfl, rfl⟩)) ?_
    have hl : ms.length < 16777216 := by omega
    have fin : ∀ m : Mv, m.ok → ∀ s, ∃ e2, Rs.nx [some (0, D.lst p), some (0, D.int start), some (0, D.int ↑many), some (1, D.lst (ms.map Mv.d ++ [m.d])), some (0, D.int ↑j), some (2, D.int (start + 6 * j)), some (2, D.int b), some (2, .lst [.int (v1 % b), .int (v2 % b), .int (v3 % b), .int (v4 % b)]), s8, s] = .nx e2 ∧ IM p start many (j + 1) e2 := fun m hm s =>
      ⟨_, rfl, 1, ms ++ [m], _, _, _, _, _, _, by rw [List.map_append]; rfl, Nat.le_refl _, by rw [List.length_append, a2]; rfl, fun x hx => by
        rcases List.mem_append.mp hx with hx | hx
        · exact a3 x hx
        · rw [List.mem_singleton] at hx; subst hx; exact hm⟩
    refine En.ifS (decide (v0 % 3 = 0)) (by simp [VL.vDef, VL.env0, VL.vSeq, VL.vSet, VL.put, VL.frz, VL.thaw, VL.vName, VL.nrm, VL.noMut, VL.noMutL, VL.v2, VL.v1, VL.vC, VL.gIC, VL.gI, VL.gAdd, VL.gMul, VL.cMul, VL.vCons, VL.vCall, VL.g1, VL.gInt, VL.gLen, VL.gAbs, VL.vRet, VL.vRetName, VL.vIfS, VL.tB_, VL.tV, VL.vLst, VL.vTup, VL.lstRv, VL.gridChild, VL.isFlat, VL.dsOf, VL.alOf, VL.mkL, VL.gCat, VL.gCatT, VL.gCatS, VL.gIx, VL.gIxA, VL.atD, VL.gEq, VL.gIsN, VL.gIsB, VL.gIsi, VL.isiD, VL.vAnd, VL.vOr, VL.vNot, VL.truD, VL.tNot_, VL.tAnd_, VL.tOr_, VL.vNeg, VL.vCallF, VL.frRv, VL.vFor, VL.loopV, VL.gN, VL.iRange1, VL.upTo, VL.rngOk, VL.vComp, VL.compV, VL.compRv, VL.wipeE, VL.iSeq, VL.itemsD, VL.gStr, VL.gStrC, VL.gIntA, VL.vSplit, VL.vJoin, VL.itemsOf, VL.gTuple, VL.gList, VL.vApp, VL.chg, VL.notIn, VL.gIxK, VL.gInK, VL.lookD, VL.vAug, eqD_int]) (fun c => ?_) (fun c => ?_)
    · exact En.is (by (simp [VL.vDef, VL.env0, VL.vSeq, VL.vSet, VL.put, VL.frz, VL.thaw, VL.vName, VL.nrm, VL.noMut, VL.noMutL, VL.v2, VL.v1, VL.vC, VL.gIC, VL.gI, VL.gAdd, VL.gMul, VL.cMul, VL.vCons, VL.vCall, VL.g1, VL.gInt, VL.gLen, VL.gAbs, VL.vRet, VL.vRetName, VL.vIfS, VL.tB_, VL.tV, VL.vLst, VL.vTup, VL.lstRv, VL.gridChild, VL.isFlat, VL.dsOf, VL.alOf, VL.mkL, VL.gCat, VL.gCatT, VL.gCatS, VL.gIx, VL.gIxA, VL.atD, VL.gEq, VL.gIsN, VL.gIsB, VL.gIsi, VL.isiD, VL.vAnd, VL.vOr, VL.vNot, VL.truD, VL.tNot_, VL.tAnd_, VL.tOr_, VL.vNeg, VL.vCallF, VL.frRv, VL.vFor, VL.loopV, VL.gN, VL.iRange1, VL.upTo, VL.rngOk, VL.vComp, VL.compV, VL.compRv, VL.wipeE, VL.iSeq, VL.itemsD, VL.gStr, VL.gStrC, VL.gIntA, VL.vSplit, VL.vJoin, VL.itemsOf, VL.gTuple, VL.gList, VL.vApp, VL.chg, VL.notIn, VL.gIxK, VL.gInK, VL.lookD, VL.vAug, a1, hl, L2.atI, L2.ixN] <;> first | exact rfl | exact ⟨rfl, rfl⟩ | exact ⟨rfl, rfl, rfl⟩)) (fin (.enter (v1 % b)) (sm_of hb) _)
    · refine En.ifS (decide (v0 % 3 = 1)) (by simp [VL.vDef, VL.env0, VL.vSeq, VL.vSet, VL.put, VL.frz, VL.thaw, VL.vName, VL.nrm, VL.noMut, VL.noMutL, VL.v2, VL.v1, VL.vC, VL.gIC, VL.gI, VL.gAdd, VL.gMul, VL.cMul, VL.vCons, VL.vCall, VL.g1, VL.gInt, VL.gLen, VL.gAbs, VL.vRet, VL.vRetName, VL.vIfS, VL.tB_, VL.tV, VL.vLst, VL.vTup, VL.lstRv, VL.gridChild, VL.isFlat, VL.dsOf, VL.alOf, VL.mkL, VL.gCat, VL.gCatT, VL.gCatS, VL.gIx, VL.gIxA, VL.atD, VL.gEq, VL.gIsN, VL.gIsB, VL.gIsi, VL.isiD, VL.vAnd, VL.vOr, VL.vNot, VL.truD, VL.tNot_, VL.tAnd_, VL.tOr_, VL.vNeg, VL.vCallF, VL.frRv, VL.vFor, VL.loopV, VL.gN, VL.iRange1, VL.upTo, VL.rngOk, VL.vComp, VL.compV, VL.compRv, VL.wipeE, VL.iSeq, VL.itemsD, VL.gStr, VL.gStrC, VL.gIntA, VL.vSplit, VL.vJoin, VL.itemsOf, VL.gTuple, VL.gList, VL.vApp, VL.chg, VL.notIn, VL.gIxK, VL.gInK, VL.lookD, VL.vAug, eqD_int]) (fun c => ?_) (fun c => ?_)
      · exact En.is (by (simp [VL.vDef, VL.env0, VL.vSeq, VL.vSet, VL.put, VL.frz, VL.thaw, VL.vName, VL.nrm, VL.noMut, VL.noMutL, VL.v2, VL.v1, VL.vC, VL.gIC, VL.gI, VL.gAdd, VL.gMul, VL.cMul, VL.vCons, VL.vCall, VL.g1, VL.gInt, VL.gLen, VL.gAbs, VL.vRet, VL.vRetName, VL.vIfS, VL.tB_, VL.tV, VL.vLst, VL.vTup, VL.lstRv, VL.gridChild, VL.isFlat, VL.dsOf, VL.alOf, VL.mkL, VL.gCat, VL.gCatT, VL.gCatS, VL.gIx, VL.gIxA, VL.atD, VL.gEq, VL.gIsN, VL.gIsB, VL.gIsi, VL.isiD, VL.vAnd, VL.vOr, VL.vNot, VL.truD, VL.tNot_, VL.tAnd_, VL.tOr_, VL.vNeg, VL.vCallF, VL.frRv, VL.vFor, VL.loopV, VL.gN, VL.iRange1, VL.upTo, VL.rngOk, VL.vComp, VL.compV, VL.compRv, VL.wipeE, VL.iSeq, VL.itemsD, VL.gStr, VL.gStrC, VL.gIntA, VL.vSplit, VL.vJoin, VL.itemsOf, VL.gTuple, VL.gList, VL.vApp, VL.chg, VL.notIn, VL.gIxK, VL.gInK, VL.lookD, VL.vAug, a1, hl, L2.atI, L2.ixN] <;> first | exact rfl | exact ⟨rfl, rfl⟩ | exact ⟨rfl, rfl, rfl⟩)) (fin (.pass (v1 % b) (v2 % b)) ⟨sm_of hb, sm_of hb⟩ _)
      · exact En.is (by (simp [VL.vDef, VL.env0, VL.vSeq, VL.vSet, VL.put, VL.frz, VL.thaw, VL.vName, VL.nrm, VL.noMut, VL.noMutL, VL.v2, VL.v1, VL.vC, VL.gIC, VL.gI, VL.gAdd, VL.gMul, VL.cMul, VL.vCons, VL.vCall, VL.g1, VL.gInt, VL.gLen, VL.gAbs, VL.vRet, VL.vRetName, VL.vIfS, VL.tB_, VL.tV, VL.vLst, VL.vTup, VL.lstRv, VL.gridChild, VL.isFlat, VL.dsOf, VL.alOf, VL.mkL, VL.gCat, VL.gCatT, VL.gCatS, VL.gIx, VL.gIxA, VL.atD, VL.gEq, VL.gIsN, VL.gIsB, VL.gIsi, VL.isiD, VL.vAnd, VL.vOr, VL.vNot, VL.truD, VL.tNot_, VL.tAnd_, VL.tOr_, VL.vNeg, VL.vCallF, VL.frRv, VL.vFor, VL.loopV, VL.gN, VL.iRange1, VL.upTo, VL.rngOk, VL.vComp, VL.compV, VL.compRv, VL.wipeE, VL.iSeq, VL.itemsD, VL.gStr, VL.gStrC, VL.gIntA, VL.vSplit, VL.vJoin, VL.itemsOf, VL.gTuple, VL.gList, VL.vApp, VL.chg, VL.notIn, VL.gIxK, VL.gInK, VL.lookD, VL.vAug, a1, hl, L2.atI, L2.ixN] <;> first | exact rfl | exact ⟨rfl, rfl⟩ | exact ⟨rfl, rfl, rfl⟩)) (fin (.swap (v1 % b) (v2 % b) (v3 % b) (v4 % b)) ⟨sm_of hb, sm_of hb, sm_of hb, sm_of hb⟩ _)
  · obtain ⟨fl, ms, s4, s5, s6, s7, s8, s9, rfl, a1, a2, a3⟩ := hi
    rw [upTo_length] at a2
    refine En.is (by (simp [VL.vDef, VL.env0, VL.vSeq, VL.vSet, VL.put, VL.frz, VL.thaw, VL.vName, VL.nrm, VL.noMut, VL.noMutL, VL.v2, VL.v1, VL.vC, VL.gIC, VL.gI, VL.gAdd, VL.gMul, VL.cMul, VL.vCons, VL.vCall, VL.g1, VL.gInt, VL.gLen, VL.gAbs, VL.vRet, VL.vRetName, VL.vIfS, VL.tB_, VL.tV, VL.vLst, VL.vTup, VL.lstRv, VL.gridChild, VL.isFlat, VL.dsOf, VL.alOf, VL.mkL, VL.gCat, VL.gCatT, VL.gCatS, VL.gIx, VL.gIxA, VL.atD, VL.gEq, VL.gIsN, VL.gIsB, VL.gIsi, VL.isiD, VL.vAnd, VL.vOr, VL.vNot, VL.truD, VL.tNot_, VL.tAnd_, VL.tOr_, VL.vNeg, VL.vCallF, VL.frRv, VL.vFor, VL.loopV, VL.gN, VL.iRange1, VL.upTo, VL.rngOk, VL.vComp, VL.compV, VL.compRv, VL.wipeE, VL.iSeq, VL.itemsD, VL.gStr, VL.gStrC, VL.gIntA, VL.vSplit, VL.vJoin, VL.itemsOf, VL.gTuple, VL.gList, VL.vApp, VL.chg, VL.notIn, VL.gIxK, VL.gInK, VL.lookD, VL.vAug] <;> first | exact rfl | exact ⟨rfl, rfl⟩ | exact ⟨rfl, rfl, rfl⟩)) ⟨_, _, rfl, ms, rfl, a2, a3, a1⟩
end VL

namespace VL
open PySem TL
/-! ### numbers as words -/
def nm (a : Int) : Str := (toString a : String)
/-- the words that do not fit, made of a word -/
def badWords (a : Int) : List Str := [("0" : Str) ++ nm (a % 10), ("-" : Str) ++ nm a, ("+" : Str) ++ nm a, nm a ++ "00", nm a ++ ".", nm a ++ "_0", "", "x", "1e1", "0x1"]
def fineB (r : Fr) (b : Bool) : Bool := match r with
  | .ok (.bl c) 2 => c == b
  | _ => false
theorem fineB_ok {r : Fr} {b : Bool} (h : fineB r b = true) : r = .ok (.bl b) 2 := by
  unfold fineB at h
  split at h
  · have := eq_of_beq h; subst this; rfl
  · cases h
def goodW (n : Nat) : Bool := fineB (c_is_number [.str (nm n)]) true && ((PySem.intText? (nm n) == some (n : Int)) && (decide ((nm n).length ≤ 2) && (PyData.strOk (nm n) && (!((tl (nm n)).contains 32) && (!((tl (nm n)).contains 10) && ((L2.atI (nm n).cps.toList (-1) == some (48 + n % 10)) && (lookD (nm n) K_FORMS).isNone))))))
def badW (n : Nat) : Bool := (badWords n).all fun w => fineB (c_is_number [.str w]) false && (decide (w.length ≤ 4) && (PyData.strOk w && (!((tl w).contains 32) && !((tl w).contains 10))))
theorem goodW_all : (List.range 100).all goodW = true := by kernel_rfl
theorem badW_all : (List.range 100).all badW = true := by kernel_rfl
theorem sm_nat {a : Int} (h : sm a) : ∃ n : Nat, a = n ∧ n < 100 := ⟨a.toNat, by have := h.1; omega, by have := h.1; have := h.2; omega⟩
theorem nm_facts {a : Int} (h : sm a) : c_is_number [.str (nm a)] = .ok (.bl true) 2 ∧ PySem.intText? (nm a) = some a ∧ (nm a).length ≤ 2 ∧ PyData.strOk (nm a) = true ∧ 32 ∉ tl (nm a) ∧ 10 ∉ tl (nm a) ∧ (∃ c, L2.atI (nm a).cps.toList (-1) = some c ∧ (⟨#[c]⟩ : Str) = nm (a % 10)) ∧ lookD (nm a) K_FORMS = none := by
  obtain ⟨n, rfl, hn⟩ := sm_nat h
  have q := List.all_eq_true.mp goodW_all n (List.mem_range.mpr hn)
  unfold goodW at q
  simp only [Bool.and_eq_true, decide_eq_true_eq, beq_iff_eq, Bool.not_eq_true', List.contains_eq_mem, decide_eq_false_iff_not] at q
  obtain ⟨h1, h2, h3, h4, h5, h6, h7, h8⟩ := q
  refine ⟨fineB_ok h1, h2, h3, h4, h5, h6, ⟨_, h7, ?_⟩, by simpa using h8⟩
  have hm : n % 10 < 10 := Nat.mod_lt _ (by decide)
  have e : ((n : Int) % 10) = ((n % 10 : Nat) : Int) := by omega
  rw [e]
  generalize n % 10 = m at hm
  match m, hm with
  | 0, _ => decide +kernel
  | 1, _ => decide +kernel
  | 2, _ => decide +kernel
  | 3, _ => decide +kernel
  | 4, _ => decide +kernel
  | 5, _ => decide +kernel
  | 6, _ => decide +kernel
  | 7, _ => decide +kernel
  | 8, _ => decide +kernel
  | 9, _ => decide +kernel
  | k + 10, h => exact absurd h (by omega)
theorem bad_facts {a : Int} (h : sm a) {w : Str} (hw : w ∈ badWords a) : c_is_number [.str w] = .ok (.bl false) 2 ∧ w.length ≤ 4 ∧ PyData.strOk w = true ∧ 32 ∉ tl w ∧ 10 ∉ tl w := by
  obtain ⟨n, rfl, hn⟩ := sm_nat h
  have q := List.all_eq_true.mp (List.all_eq_true.mp badW_all n (List.mem_range.mpr hn)) w hw
  simp only [Bool.and_eq_true, decide_eq_true_eq, Bool.not_eq_true', List.contains_eq_mem, decide_eq_false_iff_not] at q
  obtain ⟨h1, h2, h3, h4, h5⟩ := q
  exact ⟨fineB_ok h1, h2, h3, h4, h5⟩
def Mv.nums : Mv → List Int
  | .enter a => [a]
  | .pass a b => [a, b]
  | .swap a b c d => [a, b, c, d]
def Mv.name : Mv → Str
  | .enter _ => "enter"
  | .pass _ _ => "pass"
  | .swap _ _ _ _ => "swap"
def Mv.ws (m : Mv) : List Str := m.name :: m.nums.map nm
theorem Mv.sms {m : Mv} (h : m.ok) : ∀ a ∈ m.nums, sm a := by
  intro z hz
  cases m <;> simp only [Mv.nums, Mv.ok, List.mem_cons, List.not_mem_nil, or_false] at h hz
  · subst hz; exact h
  · rcases hz with rfl | rfl
    · exact h.1
    · exact h.2
  · rcases hz with rfl | rfl | rfl | rfl
    · exact h.1
    · exact h.2.1
    · exact h.2.2.1
    · exact h.2.2.2
theorem sm_log {a : Int} (h : sm a) : a.natAbs.log2 < 1920 := log2_small (by have := h.1; have := h.2; omega)
theorem e_words {m : Mv} (h : m.ok) : c_law_words [m.d] = .ok (.lst (strsD m.ws)) 2 := by
  cases m with
  | enter a => simp [VL.vDef, VL.env0, VL.vSeq, VL.vSet, VL.put, VL.frz, VL.thaw, VL.vName, VL.nrm, VL.noMut, VL.noMutL, VL.v2, VL.v1, VL.vC, VL.gIC, VL.gI, VL.gAdd, VL.gMul, VL.cMul, VL.vCons, VL.vCall, VL.g1, VL.gInt, VL.gLen, VL.gAbs, VL.vRet, VL.vRetName, VL.vIfS, VL.tB_, VL.tV, VL.vLst, VL.vTup, VL.lstRv, VL.gridChild, VL.isFlat, VL.dsOf, VL.alOf, VL.mkL, VL.gCat, VL.gCatT, VL.gCatS, VL.gIx, VL.gIxA, VL.atD, VL.gEq, VL.gIsN, VL.gIsB, VL.gIsi, VL.isiD, VL.vAnd, VL.vOr, VL.vNot, VL.truD, VL.tNot_, VL.tAnd_, VL.tOr_, VL.vNeg, VL.vCallF, VL.frRv, VL.vFor, VL.loopV, VL.gN, VL.iRange1, VL.upTo, VL.rngOk, VL.vComp, VL.compV, VL.compRv, VL.wipeE, VL.iSeq, VL.itemsD, VL.gStr, VL.gStrC, VL.gIntA, VL.vSplit, VL.vJoin, VL.itemsOf, VL.gTuple, VL.gList, VL.vApp, VL.chg, VL.notIn, VL.gIxK, VL.gInK, VL.lookD, VL.vAug, c_law_words, b_law_words, Mv.d, Mv.ws, Mv.name, Mv.nums, vSlice, vPart, cutD_drop, L2.atI, L2.ixN, sm_log h, strsD, nm]
  | pass a b => simp [VL.vDef, VL.env0, VL.vSeq, VL.vSet, VL.put, VL.frz, VL.thaw, VL.vName, VL.nrm, VL.noMut, VL.noMutL, VL.v2, VL.v1, VL.vC, VL.gIC, VL.gI, VL.gAdd, VL.gMul, VL.cMul, VL.vCons, VL.vCall, VL.g1, VL.gInt, VL.gLen, VL.gAbs, VL.vRet, VL.vRetName, VL.vIfS, VL.tB_, VL.tV, VL.vLst, VL.vTup, VL.lstRv, VL.gridChild, VL.isFlat, VL.dsOf, VL.alOf, VL.mkL, VL.gCat, VL.gCatT, VL.gCatS, VL.gIx, VL.gIxA, VL.atD, VL.gEq, VL.gIsN, VL.gIsB, VL.gIsi, VL.isiD, VL.vAnd, VL.vOr, VL.vNot, VL.truD, VL.tNot_, VL.tAnd_, VL.tOr_, VL.vNeg, VL.vCallF, VL.frRv, VL.vFor, VL.loopV, VL.gN, VL.iRange1, VL.upTo, VL.rngOk, VL.vComp, VL.compV, VL.compRv, VL.wipeE, VL.iSeq, VL.itemsD, VL.gStr, VL.gStrC, VL.gIntA, VL.vSplit, VL.vJoin, VL.itemsOf, VL.gTuple, VL.gList, VL.vApp, VL.chg, VL.notIn, VL.gIxK, VL.gInK, VL.lookD, VL.vAug, c_law_words, b_law_words, Mv.d, Mv.ws, Mv.name, Mv.nums, vSlice, vPart, cutD_drop, L2.atI, L2.ixN, sm_log h.1, sm_log h.2, strsD, nm]
  | swap a b c d => simp [VL.vDef, VL.env0, VL.vSeq, VL.vSet, VL.put, VL.frz, VL.thaw, VL.vName, VL.nrm, VL.noMut, VL.noMutL, VL.v2, VL.v1, VL.vC, VL.gIC, VL.gI, VL.gAdd, VL.gMul, VL.cMul, VL.vCons, VL.vCall, VL.g1, VL.gInt, VL.gLen, VL.gAbs, VL.vRet, VL.vRetName, VL.vIfS, VL.tB_, VL.tV, VL.vLst, VL.vTup, VL.lstRv, VL.gridChild, VL.isFlat, VL.dsOf, VL.alOf, VL.mkL, VL.gCat, VL.gCatT, VL.gCatS, VL.gIx, VL.gIxA, VL.atD, VL.gEq, VL.gIsN, VL.gIsB, VL.gIsi, VL.isiD, VL.vAnd, VL.vOr, VL.vNot, VL.truD, VL.tNot_, VL.tAnd_, VL.tOr_, VL.vNeg, VL.vCallF, VL.frRv, VL.vFor, VL.loopV, VL.gN, VL.iRange1, VL.upTo, VL.rngOk, VL.vComp, VL.compV, VL.compRv, VL.wipeE, VL.iSeq, VL.itemsD, VL.gStr, VL.gStrC, VL.gIntA, VL.vSplit, VL.vJoin, VL.itemsOf, VL.gTuple, VL.gList, VL.vApp, VL.chg, VL.notIn, VL.gIxK, VL.gInK, VL.lookD, VL.vAug, c_law_words, b_law_words, Mv.d, Mv.ws, Mv.name, Mv.nums, vSlice, vPart, cutD_drop, L2.atI, L2.ixN, sm_log h.1, sm_log h.2.1, sm_log h.2.2.1, sm_log h.2.2.2, strsD, nm]
theorem ws_len {m : Mv} (h : m.ok) : ∀ w ∈ m.ws, w.length ≤ 5 ∧ PyData.strOk w = true ∧ 32 ∉ tl w ∧ 10 ∉ tl w := by
  intro w hw
  rcases List.mem_cons.mp hw with rfl | hw
  · have q : ∀ s ∈ (["enter", "pass", "swap"] : List Str), s.length ≤ 5 ∧ PyData.strOk s = true ∧ 32 ∉ tl s ∧ 10 ∉ tl s := by decide +kernel
    exact q _ (by cases m <;> simp [Mv.name])
  · obtain ⟨a, ha, rfl⟩ := List.mem_map.mp hw
    obtain ⟨_, _, h3, h4, h5, h6, _⟩ := nm_facts (Mv.sms h a ha)
    exact ⟨by omega, h4, h5, h6⟩
theorem e_join_words {m : Mv} (h : m.ok) : c_join_words [m.d] = .ok (.str (Txt.join " " m.ws)) 2 := by
  have h1 : (Str.ofString " ").length = 1 := by decide +kernel
  have hj : joinOk " " m.ws = true := joinOk_of 5 (fun w hw => (ws_len h w hw).1) (by rw [h1]; cases m <;> simp [Mv.ws, Mv.nums])
  cases m with
  | enter a =>
    have hj' : joinOk " " ["enter", Str.ofString a.repr] = true := hj
    simp [VL.vDef, VL.env0, VL.vSeq, VL.vSet, VL.put, VL.frz, VL.thaw, VL.vName, VL.nrm, VL.noMut, VL.noMutL, VL.v2, VL.v1, VL.vC, VL.gIC, VL.gI, VL.gAdd, VL.gMul, VL.cMul, VL.vCons, VL.vCall, VL.g1, VL.gInt, VL.gLen, VL.gAbs, VL.vRet, VL.vRetName, VL.vIfS, VL.tB_, VL.tV, VL.vLst, VL.vTup, VL.lstRv, VL.gridChild, VL.isFlat, VL.dsOf, VL.alOf, VL.mkL, VL.gCat, VL.gCatT, VL.gCatS, VL.gIx, VL.gIxA, VL.atD, VL.gEq, VL.gIsN, VL.gIsB, VL.gIsi, VL.isiD, VL.vAnd, VL.vOr, VL.vNot, VL.truD, VL.tNot_, VL.tAnd_, VL.tOr_, VL.vNeg, VL.vCallF, VL.frRv, VL.vFor, VL.loopV, VL.gN, VL.iRange1, VL.upTo, VL.rngOk, VL.vComp, VL.compV, VL.compRv, VL.wipeE, VL.iSeq, VL.itemsD, VL.gStr, VL.gStrC, VL.gIntA, VL.vSplit, VL.vJoin, VL.itemsOf, VL.gTuple, VL.gList, VL.vApp, VL.chg, VL.notIn, VL.gIxK, VL.gInK, VL.lookD, VL.vAug, c_join_words, b_join_words, Mv.d, sm_log h, unstr, hj', Mv.ws, Mv.name, Mv.nums, nm]
  | pass a b =>
    have hj' : joinOk " " ["pass", Str.ofString a.repr, Str.ofString b.repr] = true := hj
    simp [VL.vDef, VL.env0, VL.vSeq, VL.vSet, VL.put, VL.frz, VL.thaw, VL.vName, VL.nrm, VL.noMut, VL.noMutL, VL.v2, VL.v1, VL.vC, VL.gIC, VL.gI, VL.gAdd, VL.gMul, VL.cMul, VL.vCons, VL.vCall, VL.g1, VL.gInt, VL.gLen, VL.gAbs, VL.vRet, VL.vRetName, VL.vIfS, VL.tB_, VL.tV, VL.vLst, VL.vTup, VL.lstRv, VL.gridChild, VL.isFlat, VL.dsOf, VL.alOf, VL.mkL, VL.gCat, VL.gCatT, VL.gCatS, VL.gIx, VL.gIxA, VL.atD, VL.gEq, VL.gIsN, VL.gIsB, VL.gIsi, VL.isiD, VL.vAnd, VL.vOr, VL.vNot, VL.truD, VL.tNot_, VL.tAnd_, VL.tOr_, VL.vNeg, VL.vCallF, VL.frRv, VL.vFor, VL.loopV, VL.gN, VL.iRange1, VL.upTo, VL.rngOk, VL.vComp, VL.compV, VL.compRv, VL.wipeE, VL.iSeq, VL.itemsD, VL.gStr, VL.gStrC, VL.gIntA, VL.vSplit, VL.vJoin, VL.itemsOf, VL.gTuple, VL.gList, VL.vApp, VL.chg, VL.notIn, VL.gIxK, VL.gInK, VL.lookD, VL.vAug, c_join_words, b_join_words, Mv.d, sm_log h.1, sm_log h.2, unstr, hj', Mv.ws, Mv.name, Mv.nums, nm]
  | swap a b c d =>
    have hj' : joinOk " " ["swap", Str.ofString a.repr, Str.ofString b.repr, Str.ofString c.repr, Str.ofString d.repr] = true := hj
    simp [VL.vDef, VL.env0, VL.vSeq, VL.vSet, VL.put, VL.frz, VL.thaw, VL.vName, VL.nrm, VL.noMut, VL.noMutL, VL.v2, VL.v1, VL.vC, VL.gIC, VL.gI, VL.gAdd, VL.gMul, VL.cMul, VL.vCons, VL.vCall, VL.g1, VL.gInt, VL.gLen, VL.gAbs, VL.vRet, VL.vRetName, VL.vIfS, VL.tB_, VL.tV, VL.vLst, VL.vTup, VL.lstRv, VL.gridChild, VL.isFlat, VL.dsOf, VL.alOf, VL.mkL, VL.gCat, VL.gCatT, VL.gCatS, VL.gIx, VL.gIxA, VL.atD, VL.gEq, VL.gIsN, VL.gIsB, VL.gIsi, VL.isiD, VL.vAnd, VL.vOr, VL.vNot, VL.truD, VL.tNot_, VL.tAnd_, VL.tOr_, VL.vNeg, VL.vCallF, VL.frRv, VL.vFor, VL.loopV, VL.gN, VL.iRange1, VL.upTo, VL.rngOk, VL.vComp, VL.compV, VL.compRv, VL.wipeE, VL.iSeq, VL.itemsD, VL.gStr, VL.gStrC, VL.gIntA, VL.vSplit, VL.vJoin, VL.itemsOf, VL.gTuple, VL.gList, VL.vApp, VL.chg, VL.notIn, VL.gIxK, VL.gInK, VL.lookD, VL.vAug, c_join_words, b_join_words, Mv.d, sm_log h.1, sm_log h.2.1, sm_log h.2.2.1, sm_log h.2.2.2, unstr, hj', Mv.ws, Mv.name, Mv.nums, nm]
end VL

namespace VL
open PySem TL
abbrev Rw := List Str × Bool
def rowD (r : Rw) : D := .tup [.lst (strsD r.1), .bl r.2]
def lineR (r : Rw) : Str := Txt.join " " r.1
def textR (rs : List Rw) : Str := Txt.join "\n" (rs.map lineR)
def wOk (w : Str) : Prop := w.length ≤ 8 ∧ PyData.strOk w = true ∧ 32 ∉ tl w ∧ 10 ∉ tl w
def rOk (r : Rw) : Prop := r.1.length ≤ 8 ∧ ∀ w ∈ r.1, wOk w
theorem len_sp : (Str.ofString " ").length = 1 := by decide +kernel
theorem len_nl : (Str.ofString "\n").length = 1 := by decide +kernel
theorem line_len {r : Rw} (h : rOk r) : (lineR r).length ≤ 72 := by
  have := join_length " " 8 r.1 fun w hw => (h.2 w hw).1
  rw [len_sp] at this
  have h1 := h.1
  unfold lineR
  omega
theorem text_len {rs : List Rw} (h : ∀ r ∈ rs, rOk r) : (textR rs).length ≤ rs.length * 73 := by
  have := join_length "\n" 72 (rs.map lineR) fun x hx => by
    obtain ⟨r, hr, rfl⟩ := List.mem_map.mp hx
    exact line_len (h r hr)
  rw [len_nl, List.length_map] at this
  exact this
theorem take_mem {α : Type} {xs : List α} {n : Nat} {x : α} (h : x ∈ xs.take n) : x ∈ xs := List.mem_of_mem_take h
theorem e_joined {rs : List Rw} (hn : rs.length ≤ 500) (h : ∀ r ∈ rs, rOk r) : ∃ d l, c_law_joined_rows [.lst (rs.map rowD)] = .ok d l ∧ d = .str (textR rs) := by
  refine En.defI ?_
  show En (b_law_joined_rows [some (0, .lst (rs.map rowD)), none, none, none, none]) _
  unfold b_law_joined_rows
  have r1 : -16777216 ≤ (rs.length : Int) := by omega
  have r2 : (rs.length : Int) ≤ 16777216 := by omega
  refine En.seq (by (simp [VL.vDef, VL.env0, VL.vSeq, VL.vSet, VL.put, VL.frz, VL.thaw, VL.vName, VL.nrm, VL.noMut, VL.noMutL, VL.v2, VL.v1, VL.vC, VL.gIC, VL.gI, VL.gAdd, VL.gMul, VL.cMul, VL.vCons, VL.vCall, VL.g1, VL.gInt, VL.gLen, VL.gAbs, VL.vRet, VL.vRetName, VL.vIfS, VL.tB_, VL.tV, VL.vLst, VL.vTup, VL.lstRv, VL.gridChild, VL.isFlat, VL.dsOf, VL.alOf, VL.mkL, VL.gCat, VL.gCatT, VL.gCatS, VL.gIx, VL.gIxA, VL.atD, VL.gEq, VL.gIsN, VL.gIsB, VL.gIsi, VL.isiD, VL.vAnd, VL.vOr, VL.vNot, VL.truD, VL.tNot_, VL.tAnd_, VL.tOr_, VL.vNeg, VL.vCallF, VL.frRv, VL.vFor, VL.loopV, VL.gN, VL.iRange1, VL.upTo, VL.rngOk, VL.vComp, VL.compV, VL.compRv, VL.wipeE, VL.iSeq, VL.itemsD, VL.gStr, VL.gStrC, VL.gIntA, VL.vSplit, VL.vJoin, VL.itemsOf, VL.gTuple, VL.gList, VL.vApp, VL.chg, VL.notIn, VL.gIxK, VL.gInK, VL.lookD, VL.vAug] <;> first | exact rfl | exact ⟨rfl, rfl⟩ | exact ⟨rfl, rfl, rfl⟩)) ?_
  refine En.forI (fun k e => ∃ (l : Nat) (s2 s3 s4 : Slot), e = [some (0, .lst (rs.map rowD)), some (l, .str (textR (rs.take k))), s2, s3, s4]) (ds := upTo 0 1 rs.length) (al := []) (by simp [VL.vDef, VL.env0, VL.vSeq, VL.vSet, VL.put, VL.frz, VL.thaw, VL.vName, VL.nrm, VL.noMut, VL.noMutL, VL.v2, VL.v1, VL.vC, VL.gIC, VL.gI, VL.gAdd, VL.gMul, VL.cMul, VL.vCons, VL.vCall, VL.g1, VL.gInt, VL.gLen, VL.gAbs, VL.vRet, VL.vRetName, VL.vIfS, VL.tB_, VL.tV, VL.vLst, VL.vTup, VL.lstRv, VL.gridChild, VL.isFlat, VL.dsOf, VL.alOf, VL.mkL, VL.gCat, VL.gCatT, VL.gCatS, VL.gIx, VL.gIxA, VL.atD, VL.gEq, VL.gIsN, VL.gIsB, VL.gIsi, VL.isiD, VL.vAnd, VL.vOr, VL.vNot, VL.truD, VL.tNot_, VL.tAnd_, VL.tOr_, VL.vNeg, VL.vCallF, VL.frRv, VL.vFor, VL.loopV, VL.gN, VL.iRange1, VL.upTo, VL.rngOk, VL.vComp, VL.compV, VL.compRv, VL.wipeE, VL.iSeq, VL.itemsD, VL.gStr, VL.gStrC, VL.gIntA, VL.vSplit, VL.vJoin, VL.itemsOf, VL.gTuple, VL.gList, VL.vApp, VL.chg, VL.notIn, VL.gIxK, VL.gInK, VL.lookD, VL.vAug, r1, r2]) ⟨2, none, none, none, by rw [List.take_zero]; rfl⟩ (fun j d e hj hi => ?_) (fun e hi => ?_)
  · obtain ⟨hj1, rfl⟩ := upTo_at hj
    obtain ⟨l, s2, s3, s4, rfl⟩ := hi
    refine ⟨_, by (simp [VL.vDef, VL.env0, VL.vSeq, VL.vSet, VL.put, VL.frz, VL.thaw, VL.vName, VL.nrm, VL.noMut, VL.noMutL, VL.v2, VL.v1, VL.vC, VL.gIC, VL.gI, VL.gAdd, VL.gMul, VL.cMul, VL.vCons, VL.vCall, VL.g1, VL.gInt, VL.gLen, VL.gAbs, VL.vRet, VL.vRetName, VL.vIfS, VL.tB_, VL.tV, VL.vLst, VL.vTup, VL.lstRv, VL.gridChild, VL.isFlat, VL.dsOf, VL.alOf, VL.mkL, VL.gCat, VL.gCatT, VL.gCatS, VL.gIx, VL.gIxA, VL.atD, VL.gEq, VL.gIsN, VL.gIsB, VL.gIsi, VL.isiD, VL.vAnd, VL.vOr, VL.vNot, VL.truD, VL.tNot_, VL.tAnd_, VL.tOr_, VL.vNeg, VL.vCallF, VL.frRv, VL.vFor, VL.loopV, VL.gN, VL.iRange1, VL.upTo, VL.rngOk, VL.vComp, VL.compV, VL.compRv, VL.wipeE, VL.iSeq, VL.itemsD, VL.gStr, VL.gStrC, VL.gIntA, VL.vSplit, VL.vJoin, VL.itemsOf, VL.gTuple, VL.gList, VL.vApp, VL.chg, VL.notIn, VL.gIxK, VL.gInK, VL.lookD, VL.vAug] <;> first | exact rfl | exact ⟨rfl, rfl⟩ | exact ⟨rfl, rfl, rfl⟩), ?_⟩
    have hT : (textR (rs.take j)).length ≤ 500 * 73 := by
      have := text_len (rs := rs.take j) fun r hr => h r (take_mem hr)
      have h2 : (rs.take j).length ≤ rs.length := List.length_take_le' ..
      omega
    have hr : rOk rs[j] := h _ (List.getElem_mem hj1)
    have hw : rs[j].1.length ≤ 8 := hr.1
    have ea : L2.atI (rs.map rowD) (j : Int) = some (rowD rs[j]) := by
      have q : j < (rs.map rowD).length := by rw [List.length_map]; exact hj1
      rw [atI_get q, List.getElem_map]
    -- the text behind the first if
    have two : ∀ B : Str, B.length ≤ 500 * 73 + 1 → (B ++ lineR rs[j] = textR (rs.take (j + 1))) → ∀ l, En (vSeq (vSet 3 (v2 gIx (v2 gIx (vName 0) (vName 2)) (vC (.int 0))))
  (vFor (iRange1 (vCons (vCall (g1 gLen) (vCons (vName 3) (fun _ => some []))) (fun _ => some []))) (gN 4) (vSeq (vIfS (tB_ (v2 (gI fun i j => .bl (decide (j < i))) (vName 4) (vC (.int 0)))) (vSet 1 (v2 gAdd (vName 1) (vC (.str " ")))) ((fun e => .nx e)))
  (vSet 1 (v2 gAdd (vName 1) (v2 gIx (vName 3) (vName 4)))))) [some (0, .lst (rs.map rowD)), some (l, .str B), some (0, .int j), s3, s4]) fun r => ∃ e2, r = .nx e2 ∧ ∃ (l : Nat) (s2 s3 s4 : Slot), e2 = [some (0, .lst (rs.map rowD)), some (l, .str (textR (rs.take (j + 1)))), s2, s3, s4] := by
      intro B hB he l
      have w1 : -16777216 ≤ (rs[j].1.length : Int) := by omega
      have w2 : (rs[j].1.length : Int) ≤ 16777216 := by omega
      have e0 : L2.atI [D.lst (strsD rs[j].fst), D.bl rs[j].snd] 0 = some (.lst (strsD rs[j].fst)) := rfl
      refine En.seq (e := [some (0, .lst (rs.map rowD)), some (l, .str B), some (0, .int j), some (0, .lst (strsD rs[j].1)), s4]) (by cases noMutL (rs.map rowD) <;> simp [VL.vDef, VL.env0, VL.vSeq, VL.vSet, VL.put, VL.frz, VL.thaw, VL.vName, VL.nrm, VL.noMut, VL.noMutL, VL.v2, VL.v1, VL.vC, VL.gIC, VL.gI, VL.gAdd, VL.gMul, VL.cMul, VL.vCons, VL.vCall, VL.g1, VL.gInt, VL.gLen, VL.gAbs, VL.vRet, VL.vRetName, VL.vIfS, VL.tB_, VL.tV, VL.vLst, VL.vTup, VL.lstRv, VL.gridChild, VL.isFlat, VL.dsOf, VL.alOf, VL.mkL, VL.gCat, VL.gCatT, VL.gCatS, VL.gIx, VL.gIxA, VL.atD, VL.gEq, VL.gIsN, VL.gIsB, VL.gIsi, VL.isiD, VL.vAnd, VL.vOr, VL.vNot, VL.truD, VL.tNot_, VL.tAnd_, VL.tOr_, VL.vNeg, VL.vCallF, VL.frRv, VL.vFor, VL.loopV, VL.gN, VL.iRange1, VL.upTo, VL.rngOk, VL.vComp, VL.compV, VL.compRv, VL.wipeE, VL.iSeq, VL.itemsD, VL.gStr, VL.gStrC, VL.gIntA, VL.vSplit, VL.vJoin, VL.itemsOf, VL.gTuple, VL.gList, VL.vApp, VL.chg, VL.notIn, VL.gIxK, VL.gInK, VL.lookD, VL.vAug, ea, rowD, e0]) ?_
      refine En.for_ (fun i e => ∃ (l : Nat) (s4 : Slot), e = [some (0, .lst (rs.map rowD)), some (l, .str (B ++ Txt.join " " (rs[j].1.take i))), some (0, .int j), some (0, .lst (strsD rs[j].1)), s4]) (ds := upTo 0 1 rs[j].1.length) (al := []) (by simp [VL.vDef, VL.env0, VL.vSeq, VL.vSet, VL.put, VL.frz, VL.thaw, VL.vName, VL.nrm, VL.noMut, VL.noMutL, VL.v2, VL.v1, VL.vC, VL.gIC, VL.gI, VL.gAdd, VL.gMul, VL.cMul, VL.vCons, VL.vCall, VL.g1, VL.gInt, VL.gLen, VL.gAbs, VL.vRet, VL.vRetName, VL.vIfS, VL.tB_, VL.tV, VL.vLst, VL.vTup, VL.lstRv, VL.gridChild, VL.isFlat, VL.dsOf, VL.alOf, VL.mkL, VL.gCat, VL.gCatT, VL.gCatS, VL.gIx, VL.gIxA, VL.atD, VL.gEq, VL.gIsN, VL.gIsB, VL.gIsi, VL.isiD, VL.vAnd, VL.vOr, VL.vNot, VL.truD, VL.tNot_, VL.tAnd_, VL.tOr_, VL.vNeg, VL.vCallF, VL.frRv, VL.vFor, VL.loopV, VL.gN, VL.iRange1, VL.upTo, VL.rngOk, VL.vComp, VL.compV, VL.compRv, VL.wipeE, VL.iSeq, VL.itemsD, VL.gStr, VL.gStrC, VL.gIntA, VL.vSplit, VL.vJoin, VL.itemsOf, VL.gTuple, VL.gList, VL.vApp, VL.chg, VL.notIn, VL.gIxK, VL.gInK, VL.lookD, VL.vAug, w1, w2, strs_len, noMut_strs]) ⟨l, s4, ?_⟩ (fun i d e hi2 hI => ?_) (fun e hI => ?_)
      · rw [List.take_zero, join_nil]
        rw [app_empty]; rfl
      · obtain ⟨hi1, rfl⟩ := upTo_at hi2
        obtain ⟨l, s4, rfl⟩ := hI
        refine ⟨_, by (simp [VL.vDef, VL.env0, VL.vSeq, VL.vSet, VL.put, VL.frz, VL.thaw, VL.vName, VL.nrm, VL.noMut, VL.noMutL, VL.v2, VL.v1, VL.vC, VL.gIC, VL.gI, VL.gAdd, VL.gMul, VL.cMul, VL.vCons, VL.vCall, VL.g1, VL.gInt, VL.gLen, VL.gAbs, VL.vRet, VL.vRetName, VL.vIfS, VL.tB_, VL.tV, VL.vLst, VL.vTup, VL.lstRv, VL.gridChild, VL.isFlat, VL.dsOf, VL.alOf, VL.mkL, VL.gCat, VL.gCatT, VL.gCatS, VL.gIx, VL.gIxA, VL.atD, VL.gEq, VL.gIsN, VL.gIsB, VL.gIsi, VL.isiD, VL.vAnd, VL.vOr, VL.vNot, VL.truD, VL.tNot_, VL.tAnd_, VL.tOr_, VL.vNeg, VL.vCallF, VL.frRv, VL.vFor, VL.loopV, VL.gN, VL.iRange1, VL.upTo, VL.rngOk, VL.vComp, VL.compV, VL.compRv, VL.wipeE, VL.iSeq, VL.itemsD, VL.gStr, VL.gStrC, VL.gIntA, VL.vSplit, VL.vJoin, VL.itemsOf, VL.gTuple, VL.gList, VL.vApp, VL.chg, VL.notIn, VL.gIxK, VL.gInK, VL.lookD, VL.vAug] <;> first | exact rfl | exact ⟨rfl, rfl⟩ | exact ⟨rfl, rfl, rfl⟩), ?_⟩
        have ew := atI_strs (ws := rs[j].1) hi1
        have hlen : (Txt.join " " (rs[j].1.take i)).length ≤ 72 := by
          have := line_len (r := (rs[j].1.take i, true)) ⟨Nat.le_trans (List.length_take_le' ..) hr.1, fun w hw => hr.2 w (take_mem hw)⟩
          exact this
        have hwl := (hr.2 _ (List.getElem_mem hi1)).1
        have jt := join_take (s := " ") hi1
        by_cases h0 : i = 0
        · subst h0
          rw [if_pos rfl] at jt
          rw [List.take_zero, join_nil, app_empty]
          have q1 : B.length + rs[j].1[0].length ≤ 16777216 := by omega
          refine En.seq (by (simp [VL.vDef, VL.env0, VL.vSeq, VL.vSet, VL.put, VL.frz, VL.thaw, VL.vName, VL.nrm, VL.noMut, VL.noMutL, VL.v2, VL.v1, VL.vC, VL.gIC, VL.gI, VL.gAdd, VL.gMul, VL.cMul, VL.vCons, VL.vCall, VL.g1, VL.gInt, VL.gLen, VL.gAbs, VL.vRet, VL.vRetName, VL.vIfS, VL.tB_, VL.tV, VL.vLst, VL.vTup, VL.lstRv, VL.gridChild, VL.isFlat, VL.dsOf, VL.alOf, VL.mkL, VL.gCat, VL.gCatT, VL.gCatS, VL.gIx, VL.gIxA, VL.atD, VL.gEq, VL.gIsN, VL.gIsB, VL.gIsi, VL.isiD, VL.vAnd, VL.vOr, VL.vNot, VL.truD, VL.tNot_, VL.tAnd_, VL.tOr_, VL.vNeg, VL.vCallF, VL.frRv, VL.vFor, VL.loopV, VL.gN, VL.iRange1, VL.upTo, VL.rngOk, VL.vComp, VL.compV, VL.compRv, VL.wipeE, VL.iSeq, VL.itemsD, VL.gStr, VL.gStrC, VL.gIntA, VL.vSplit, VL.vJoin, VL.itemsOf, VL.gTuple, VL.gList, VL.vApp, VL.chg, VL.notIn, VL.gIxK, VL.gInK, VL.lookD, VL.vAug] <;> first | exact rfl | exact ⟨rfl, rfl⟩ | exact ⟨rfl, rfl, rfl⟩)) ?_
          have ew0 : L2.atI (strsD rs[j].1) 0 = some (.str rs[j].1[0]) := ew
          exact En.is (by (simp [VL.vDef, VL.env0, VL.vSeq, VL.vSet, VL.put, VL.frz, VL.thaw, VL.vName, VL.nrm, VL.noMut, VL.noMutL, VL.v2, VL.v1, VL.vC, VL.gIC, VL.gI, VL.gAdd, VL.gMul, VL.cMul, VL.vCons, VL.vCall, VL.g1, VL.gInt, VL.gLen, VL.gAbs, VL.vRet, VL.vRetName, VL.vIfS, VL.tB_, VL.tV, VL.vLst, VL.vTup, VL.lstRv, VL.gridChild, VL.isFlat, VL.dsOf, VL.alOf, VL.mkL, VL.gCat, VL.gCatT, VL.gCatS, VL.gIx, VL.gIxA, VL.atD, VL.gEq, VL.gIsN, VL.gIsB, VL.gIsi, VL.isiD, VL.vAnd, VL.vOr, VL.vNot, VL.truD, VL.tNot_, VL.tAnd_, VL.tOr_, VL.vNeg, VL.vCallF, VL.frRv, VL.vFor, VL.loopV, VL.gN, VL.iRange1, VL.upTo, VL.rngOk, VL.vComp, VL.compV, VL.compRv, VL.wipeE, VL.iSeq, VL.itemsD, VL.gStr, VL.gStrC, VL.gIntA, VL.vSplit, VL.vJoin, VL.itemsOf, VL.gTuple, VL.gList, VL.vApp, VL.chg, VL.notIn, VL.gIxK, VL.gInK, VL.lookD, VL.vAug, ew0, noMut_strs, q1] <;> first | exact rfl | exact ⟨rfl, rfl⟩ | exact ⟨rfl, rfl, rfl⟩)) ⟨_, rfl, 2, some (0, .int 0), by rw [jt]⟩
        · rw [if_neg h0] at jt
          have hi0 : 0 < i := by omega
          have q1 : (B ++ Txt.join " " (rs[j].1.take i)).length + (Str.ofString " ").length ≤ 16777216 := by rw [Str.length_append, len_sp]; omega
          have q2 : (B ++ Txt.join " " (rs[j].1.take i) ++ Str.ofString " ").length + rs[j].1[i].length ≤ 16777216 := by rw [Str.length_append, Str.length_append, len_sp]; omega
          refine En.seq (by (simp [VL.vDef, VL.env0, VL.vSeq, VL.vSet, VL.put, VL.frz, VL.thaw, VL.vName, VL.nrm, VL.noMut, VL.noMutL, VL.v2, VL.v1, VL.vC, VL.gIC, VL.gI, VL.gAdd, VL.gMul, VL.cMul, VL.vCons, VL.vCall, VL.g1, VL.gInt, VL.gLen, VL.gAbs, VL.vRet, VL.vRetName, VL.vIfS, VL.tB_, VL.tV, VL.vLst, VL.vTup, VL.lstRv, VL.gridChild, VL.isFlat, VL.dsOf, VL.alOf, VL.mkL, VL.gCat, VL.gCatT, VL.gCatS, VL.gIx, VL.gIxA, VL.atD, VL.gEq, VL.gIsN, VL.gIsB, VL.gIsi, VL.isiD, VL.vAnd, VL.vOr, VL.vNot, VL.truD, VL.tNot_, VL.tAnd_, VL.tOr_, VL.vNeg, VL.vCallF, VL.frRv, VL.vFor, VL.loopV, VL.gN, VL.iRange1, VL.upTo, VL.rngOk, VL.vComp, VL.compV, VL.compRv, VL.wipeE, VL.iSeq, VL.itemsD, VL.gStr, VL.gStrC, VL.gIntA, VL.vSplit, VL.vJoin, VL.itemsOf, VL.gTuple, VL.gList, VL.vApp, VL.chg, VL.notIn, VL.gIxK, VL.gInK, VL.lookD, VL.vAug, hi0, q1] <;> first | exact rfl | exact ⟨rfl, rfl⟩ | exact ⟨rfl, rfl, rfl⟩)) ?_
          exact En.is (by (simp [VL.vDef, VL.env0, VL.vSeq, VL.vSet, VL.put, VL.frz, VL.thaw, VL.vName, VL.nrm, VL.noMut, VL.noMutL, VL.v2, VL.v1, VL.vC, VL.gIC, VL.gI, VL.gAdd, VL.gMul, VL.cMul, VL.vCons, VL.vCall, VL.g1, VL.gInt, VL.gLen, VL.gAbs, VL.vRet, VL.vRetName, VL.vIfS, VL.tB_, VL.tV, VL.vLst, VL.vTup, VL.lstRv, VL.gridChild, VL.isFlat, VL.dsOf, VL.alOf, VL.mkL, VL.gCat, VL.gCatT, VL.gCatS, VL.gIx, VL.gIxA, VL.atD, VL.gEq, VL.gIsN, VL.gIsB, VL.gIsi, VL.isiD, VL.vAnd, VL.vOr, VL.vNot, VL.truD, VL.tNot_, VL.tAnd_, VL.tOr_, VL.vNeg, VL.vCallF, VL.frRv, VL.vFor, VL.loopV, VL.gN, VL.iRange1, VL.upTo, VL.rngOk, VL.vComp, VL.compV, VL.compRv, VL.wipeE, VL.iSeq, VL.itemsD, VL.gStr, VL.gStrC, VL.gIntA, VL.vSplit, VL.vJoin, VL.itemsOf, VL.gTuple, VL.gList, VL.vApp, VL.chg, VL.notIn, VL.gIxK, VL.gInK, VL.lookD, VL.vAug, ew, noMut_strs, q2] <;> first | exact rfl | exact ⟨rfl, rfl⟩ | exact ⟨rfl, rfl, rfl⟩)) ⟨_, rfl, 2, some (0, .int i), by rw [jt]; simp only [Str.append_assoc]⟩
      · obtain ⟨l, s4, rfl⟩ := hI
        rw [upTo_length, List.take_length]
        exact ⟨l, _, _, s4, by rw [← he]; rfl⟩
    have jt := join_take (s := "\n") (xs := rs.map lineR) (k := j) (by rw [List.length_map]; exact hj1)
    rw [List.getElem_map] at jt
    have et : ∀ k, Txt.join "\n" ((rs.map lineR).take k) = textR (rs.take k) := fun k => by unfold textR; rw [List.map_take]
    rw [et, et] at jt
    by_cases h0 : j = 0
    · subst h0
      rw [if_pos rfl] at jt
      rw [List.take_zero] at *
      refine En.seq (by (simp [VL.vDef, VL.env0, VL.vSeq, VL.vSet, VL.put, VL.frz, VL.thaw, VL.vName, VL.nrm, VL.noMut, VL.noMutL, VL.v2, VL.v1, VL.vC, VL.gIC, VL.gI, VL.gAdd, VL.gMul, VL.cMul, VL.vCons, VL.vCall, VL.g1, VL.gInt, VL.gLen, VL.gAbs, VL.vRet, VL.vRetName, VL.vIfS, VL.tB_, VL.tV, VL.vLst, VL.vTup, VL.lstRv, VL.gridChild, VL.isFlat, VL.dsOf, VL.alOf, VL.mkL, VL.gCat, VL.gCatT, VL.gCatS, VL.gIx, VL.gIxA, VL.atD, VL.gEq, VL.gIsN, VL.gIsB, VL.gIsi, VL.isiD, VL.vAnd, VL.vOr, VL.vNot, VL.truD, VL.tNot_, VL.tAnd_, VL.tOr_, VL.vNeg, VL.vCallF, VL.frRv, VL.vFor, VL.loopV, VL.gN, VL.iRange1, VL.upTo, VL.rngOk, VL.vComp, VL.compV, VL.compRv, VL.wipeE, VL.iSeq, VL.itemsD, VL.gStr, VL.gStrC, VL.gIntA, VL.vSplit, VL.vJoin, VL.itemsOf, VL.gTuple, VL.gList, VL.vApp, VL.chg, VL.notIn, VL.gIxK, VL.gInK, VL.lookD, VL.vAug] <;> first | exact rfl | exact ⟨rfl, rfl⟩ | exact ⟨rfl, rfl, rfl⟩)) ?_
      refine two (textR []) (by have : (textR []).length = 0 := rfl; omega) ?_ _
      rw [jt]
      have : textR [] = Str.empty := by unfold textR; rw [List.map_nil, join_nil]
      rw [this, Str.empty_append]
    · rw [if_neg h0] at jt
      have hj0 : 0 < j := by omega
      have q1 : (textR (rs.take j)).length + (Str.ofString "\n").length ≤ 16777216 := by rw [len_nl]; omega
      refine En.seq (by (simp [VL.vDef, VL.env0, VL.vSeq, VL.vSet, VL.put, VL.frz, VL.thaw, VL.vName, VL.nrm, VL.noMut, VL.noMutL, VL.v2, VL.v1, VL.vC, VL.gIC, VL.gI, VL.gAdd, VL.gMul, VL.cMul, VL.vCons, VL.vCall, VL.g1, VL.gInt, VL.gLen, VL.gAbs, VL.vRet, VL.vRetName, VL.vIfS, VL.tB_, VL.tV, VL.vLst, VL.vTup, VL.lstRv, VL.gridChild, VL.isFlat, VL.dsOf, VL.alOf, VL.mkL, VL.gCat, VL.gCatT, VL.gCatS, VL.gIx, VL.gIxA, VL.atD, VL.gEq, VL.gIsN, VL.gIsB, VL.gIsi, VL.isiD, VL.vAnd, VL.vOr, VL.vNot, VL.truD, VL.tNot_, VL.tAnd_, VL.tOr_, VL.vNeg, VL.vCallF, VL.frRv, VL.vFor, VL.loopV, VL.gN, VL.iRange1, VL.upTo, VL.rngOk, VL.vComp, VL.compV, VL.compRv, VL.wipeE, VL.iSeq, VL.itemsD, VL.gStr, VL.gStrC, VL.gIntA, VL.vSplit, VL.vJoin, VL.itemsOf, VL.gTuple, VL.gList, VL.vApp, VL.chg, VL.notIn, VL.gIxK, VL.gInK, VL.lookD, VL.vAug, hj0, q1] <;> first | exact rfl | exact ⟨rfl, rfl⟩ | exact ⟨rfl, rfl, rfl⟩)) ?_
      exact two _ (by rw [Str.length_append, len_nl]; omega) jt.symm _
  · obtain ⟨l, s2, s3, s4, rfl⟩ := hi
    rw [upTo_length, List.take_length]
    exact En.is (by (simp [VL.vDef, VL.env0, VL.vSeq, VL.vSet, VL.put, VL.frz, VL.thaw, VL.vName, VL.nrm, VL.noMut, VL.noMutL, VL.v2, VL.v1, VL.vC, VL.gIC, VL.gI, VL.gAdd, VL.gMul, VL.cMul, VL.vCons, VL.vCall, VL.g1, VL.gInt, VL.gLen, VL.gAbs, VL.vRet, VL.vRetName, VL.vIfS, VL.tB_, VL.tV, VL.vLst, VL.vTup, VL.lstRv, VL.gridChild, VL.isFlat, VL.dsOf, VL.alOf, VL.mkL, VL.gCat, VL.gCatT, VL.gCatS, VL.gIx, VL.gIxA, VL.atD, VL.gEq, VL.gIsN, VL.gIsB, VL.gIsi, VL.isiD, VL.vAnd, VL.vOr, VL.vNot, VL.truD, VL.tNot_, VL.tAnd_, VL.tOr_, VL.vNeg, VL.vCallF, VL.frRv, VL.vFor, VL.loopV, VL.gN, VL.iRange1, VL.upTo, VL.rngOk, VL.vComp, VL.compV, VL.compRv, VL.wipeE, VL.iSeq, VL.itemsD, VL.gStr, VL.gStrC, VL.gIntA, VL.vSplit, VL.vJoin, VL.itemsOf, VL.gTuple, VL.gList, VL.vApp, VL.chg, VL.notIn, VL.gIxK, VL.gInK, VL.lookD, VL.vAug] <;> first | exact rfl | exact ⟨rfl, rfl⟩ | exact ⟨rfl, rfl, rfl⟩)) ⟨_, _, rfl, rfl⟩
end VL

namespace VL
open PySem TL
def rowOf (m : Mv) : Rw := (m.ws, true)
theorem rowOf_ok {m : Mv} (h : m.ok) : rOk (rowOf m) := ⟨by cases m <;> simp [rowOf, Mv.ws, Mv.nums], fun w hw => by
  obtain ⟨h1, h2, h3, h4⟩ := ws_len h w hw
  exact ⟨by omega, h2, h3, h4⟩⟩
theorem map_strs {α : Type} (xs : List α) (f : α → Str) : (xs.map fun x => D.str (f x)) = strsD (xs.map f) := by unfold strsD; rw [List.map_map]; rfl
theorem e_run_text {ms : List Mv} (hn : ms.length ≤ 500) (h : ∀ m ∈ ms, m.ok) {d : D} (hd : d = .lst (ms.map Mv.d) ∨ d = .tup (ms.map Mv.d)) : c_run_text [d] = .ok (.str (textR (ms.map rowOf))) 2 := by
  have hj : joinOk "\n" (ms.map fun m => Txt.join " " m.ws) = true := joinOk_of 72 (fun x hx => by
    obtain ⟨m, hm, rfl⟩ := List.mem_map.mp hx
    exact line_len (rowOf_ok (h m hm))) (by rw [List.length_map, len_nl]; omega)
  have hit : iSeq (vName 0) [some (0, d), none] = some (ms.map Mv.d, [0]) ∨ iSeq (vName 0) [some (0, d), none] = some (ms.map Mv.d, []) := by
    have hl : ms.length ≤ 16777216 := by omega
    rcases hd with rfl | rfl
    · left; simp [VL.vDef, VL.env0, VL.vSeq, VL.vSet, VL.put, VL.frz, VL.thaw, VL.vName, VL.nrm, VL.noMut, VL.noMutL, VL.v2, VL.v1, VL.vC, VL.gIC, VL.gI, VL.gAdd, VL.gMul, VL.cMul, VL.vCons, VL.vCall, VL.g1, VL.gInt, VL.gLen, VL.gAbs, VL.vRet, VL.vRetName, VL.vIfS, VL.tB_, VL.tV, VL.vLst, VL.vTup, VL.lstRv, VL.gridChild, VL.isFlat, VL.dsOf, VL.alOf, VL.mkL, VL.gCat, VL.gCatT, VL.gCatS, VL.gIx, VL.gIxA, VL.atD, VL.gEq, VL.gIsN, VL.gIsB, VL.gIsi, VL.isiD, VL.vAnd, VL.vOr, VL.vNot, VL.truD, VL.tNot_, VL.tAnd_, VL.tOr_, VL.vNeg, VL.vCallF, VL.frRv, VL.vFor, VL.loopV, VL.gN, VL.iRange1, VL.upTo, VL.rngOk, VL.vComp, VL.compV, VL.compRv, VL.wipeE, VL.iSeq, VL.itemsD, VL.gStr, VL.gStrC, VL.gIntA, VL.vSplit, VL.vJoin, VL.itemsOf, VL.gTuple, VL.gList, VL.vApp, VL.chg, VL.notIn, VL.gIxK, VL.gInK, VL.lookD, VL.vAug, hl]
    · right
      have hm := noMutL_mv ms
      simp [VL.vDef, VL.env0, VL.vSeq, VL.vSet, VL.put, VL.frz, VL.thaw, VL.vName, VL.nrm, VL.noMut, VL.noMutL, VL.v2, VL.v1, VL.vC, VL.gIC, VL.gI, VL.gAdd, VL.gMul, VL.cMul, VL.vCons, VL.vCall, VL.g1, VL.gInt, VL.gLen, VL.gAbs, VL.vRet, VL.vRetName, VL.vIfS, VL.tB_, VL.tV, VL.vLst, VL.vTup, VL.lstRv, VL.gridChild, VL.isFlat, VL.dsOf, VL.alOf, VL.mkL, VL.gCat, VL.gCatT, VL.gCatS, VL.gIx, VL.gIxA, VL.atD, VL.gEq, VL.gIsN, VL.gIsB, VL.gIsi, VL.isiD, VL.vAnd, VL.vOr, VL.vNot, VL.truD, VL.tNot_, VL.tAnd_, VL.tOr_, VL.vNeg, VL.vCallF, VL.frRv, VL.vFor, VL.loopV, VL.gN, VL.iRange1, VL.upTo, VL.rngOk, VL.vComp, VL.compV, VL.compRv, VL.wipeE, VL.iSeq, VL.itemsD, VL.gStr, VL.gStrC, VL.gIntA, VL.vSplit, VL.vJoin, VL.itemsOf, VL.gTuple, VL.gList, VL.vApp, VL.chg, VL.notIn, VL.gIxK, VL.gInK, VL.lookD, VL.vAug, hl, hm]
  have hc : vComp (iSeq (vName 0)) [1] (gN 1) (fun _ => some true) (vCallF c_join_words (vCons (vName 1) (fun _ => some []))) [some (0, d), none] = some ⟨.lst (strsD (ms.map fun m => Txt.join " " m.ws)), 2, []⟩ := by
    have key : ∀ al, iSeq (vName 0) [some (0, d), none] = some (ms.map Mv.d, al) → (al = [0] ∨ al = []) → vComp (iSeq (vName 0)) [1] (gN 1) (fun _ => some true) (vCallF c_join_words (vCons (vName 1) (fun _ => some []))) [some (0, d), none] = some ⟨.lst (strsD (ms.map fun m => Txt.join " " m.ws)), 2, []⟩ := by
      intro al a hal
      rw [comp_mapX Mv.d (fun m => ⟨.str (Txt.join " " m.ws), 2, []⟩) a (fun m hm => by
        refine ⟨[some (0, d), some (0, m.d)], ?_, rfl, ?_⟩
        · rcases hal with rfl | rfl <;> simp [VL.vDef, VL.env0, VL.vSeq, VL.vSet, VL.put, VL.frz, VL.thaw, VL.vName, VL.nrm, VL.noMut, VL.noMutL, VL.v2, VL.v1, VL.vC, VL.gIC, VL.gI, VL.gAdd, VL.gMul, VL.cMul, VL.vCons, VL.vCall, VL.g1, VL.gInt, VL.gLen, VL.gAbs, VL.vRet, VL.vRetName, VL.vIfS, VL.tB_, VL.tV, VL.vLst, VL.vTup, VL.lstRv, VL.gridChild, VL.isFlat, VL.dsOf, VL.alOf, VL.mkL, VL.gCat, VL.gCatT, VL.gCatS, VL.gIx, VL.gIxA, VL.atD, VL.gEq, VL.gIsN, VL.gIsB, VL.gIsi, VL.isiD, VL.vAnd, VL.vOr, VL.vNot, VL.truD, VL.tNot_, VL.tAnd_, VL.tOr_, VL.vNeg, VL.vCallF, VL.frRv, VL.vFor, VL.loopV, VL.gN, VL.iRange1, VL.upTo, VL.rngOk, VL.vComp, VL.compV, VL.compRv, VL.wipeE, VL.iSeq, VL.itemsD, VL.gStr, VL.gStrC, VL.gIntA, VL.vSplit, VL.vJoin, VL.itemsOf, VL.gTuple, VL.gList, VL.vApp, VL.chg, VL.notIn, VL.gIxK, VL.gInK, VL.lookD, VL.vAug]
        · have nmd : noMut m.d = true := by cases m <;> rfl
          have e := e_join_words (h m hm)
          simp [VL.vDef, VL.env0, VL.vSeq, VL.vSet, VL.put, VL.frz, VL.thaw, VL.vName, VL.nrm, VL.noMut, VL.noMutL, VL.v2, VL.v1, VL.vC, VL.gIC, VL.gI, VL.gAdd, VL.gMul, VL.cMul, VL.vCons, VL.vCall, VL.g1, VL.gInt, VL.gLen, VL.gAbs, VL.vRet, VL.vRetName, VL.vIfS, VL.tB_, VL.tV, VL.vLst, VL.vTup, VL.lstRv, VL.gridChild, VL.isFlat, VL.dsOf, VL.alOf, VL.mkL, VL.gCat, VL.gCatT, VL.gCatS, VL.gIx, VL.gIxA, VL.atD, VL.gEq, VL.gIsN, VL.gIsB, VL.gIsi, VL.isiD, VL.vAnd, VL.vOr, VL.vNot, VL.truD, VL.tNot_, VL.tAnd_, VL.tOr_, VL.vNeg, VL.vCallF, VL.frRv, VL.vFor, VL.loopV, VL.gN, VL.iRange1, VL.upTo, VL.rngOk, VL.vComp, VL.compV, VL.compRv, VL.wipeE, VL.iSeq, VL.itemsD, VL.gStr, VL.gStrC, VL.gIntA, VL.vSplit, VL.vJoin, VL.itemsOf, VL.gTuple, VL.gList, VL.vApp, VL.chg, VL.notIn, VL.gIxK, VL.gInK, VL.lookD, VL.vAug, nmd, e]), compRv_map (fun _ _ => rfl), map_strs]
    rcases hit with a | a
    · exact key _ a (.inl rfl)
    · exact key _ a (.inr rfl)
  refine def_ret (l := 2) ?_
  show b_run_text [some (0, d), none] = _
  unfold b_run_text
  have et : textR (ms.map rowOf) = Txt.join "\n" (ms.map fun m => Txt.join " " m.ws) := by unfold textR; rw [List.map_map]; rfl
  rw [et]
  simp [VL.vDef, VL.env0, VL.vSeq, VL.vSet, VL.put, VL.frz, VL.thaw, VL.vName, VL.nrm, VL.noMut, VL.noMutL, VL.v2, VL.v1, VL.vC, VL.gIC, VL.gI, VL.gAdd, VL.gMul, VL.cMul, VL.vCons, VL.vCall, VL.g1, VL.gInt, VL.gLen, VL.gAbs, VL.vRet, VL.vRetName, VL.vIfS, VL.tB_, VL.tV, VL.vLst, VL.vTup, VL.lstRv, VL.gridChild, VL.isFlat, VL.dsOf, VL.alOf, VL.mkL, VL.gCat, VL.gCatT, VL.gCatS, VL.gIx, VL.gIxA, VL.atD, VL.gEq, VL.gIsN, VL.gIsB, VL.gIsi, VL.isiD, VL.vAnd, VL.vOr, VL.vNot, VL.truD, VL.tNot_, VL.tAnd_, VL.tOr_, VL.vNeg, VL.vCallF, VL.frRv, VL.vFor, VL.loopV, VL.gN, VL.iRange1, VL.upTo, VL.rngOk, VL.gStr, VL.gStrC, VL.gIntA, VL.vSplit, VL.vJoin, VL.itemsOf, VL.gTuple, VL.gList, VL.vApp, VL.chg, VL.notIn, VL.gIxK, VL.gInK, VL.lookD, VL.vAug, hc, unstr_strs, hj]
/-- what is_number says -/
def isN (w : Str) : Bool := match c_is_number [.str w] with
  | .ok (.bl b) _ => b
  | _ => false
def kN (w : Str) : Prop := c_is_number [.str w] = .ok (.bl (isN w)) 2
theorem kN_of {w : Str} {b : Bool} (h : c_is_number [.str w] = .ok (.bl b) 2) : kN w ∧ isN w = b := by
  have : isN w = b := by unfold isN; rw [h]
  exact ⟨by unfold kN; rw [this]; exact h, this⟩
theorem blsD_mapF {α : Type} (f : α → Bool) : ∀ xs : List α, blsD (xs.map fun x => .bl (f x)) = some (xs.map f)
  | [] => rfl
  | x :: xs => by rw [List.map_cons, blsD, blsD_mapF f xs]; rfl
theorem comp_isN {ws : List Str} (hn : ws.length ≤ 1000) (h : ∀ w ∈ ws, kN w) : vComp (iSeq (vName 0)) [1] (gN 1) (fun _ => some true) (vCallF c_is_number (vCons (vName 1) (fun _ => some []))) [some (0, .lst (strsD ws)), none] = some ⟨.lst (ws.map fun w => .bl (isN w)), 2, []⟩ := by
  have hl : ws.length ≤ 16777216 := by omega
  rw [comp_mapX (al := [0]) (xs := ws) D.str (fun w => ⟨.bl (isN w), 2, []⟩) (by simp [VL.vDef, VL.env0, VL.vSeq, VL.vSet, VL.put, VL.frz, VL.thaw, VL.vName, VL.nrm, VL.noMut, VL.noMutL, VL.v2, VL.v1, VL.vC, VL.gIC, VL.gI, VL.gAdd, VL.gMul, VL.cMul, VL.vCons, VL.vCall, VL.g1, VL.gInt, VL.gLen, VL.gAbs, VL.vRet, VL.vRetName, VL.vIfS, VL.tB_, VL.tV, VL.vLst, VL.vTup, VL.lstRv, VL.gridChild, VL.isFlat, VL.dsOf, VL.alOf, VL.mkL, VL.gCat, VL.gCatT, VL.gCatS, VL.gIx, VL.gIxA, VL.atD, VL.gEq, VL.gIsN, VL.gIsB, VL.gIsi, VL.isiD, VL.vAnd, VL.vOr, VL.vNot, VL.truD, VL.tNot_, VL.tAnd_, VL.tOr_, VL.vNeg, VL.vCallF, VL.frRv, VL.vFor, VL.loopV, VL.gN, VL.iRange1, VL.upTo, VL.rngOk, VL.vComp, VL.compV, VL.compRv, VL.wipeE, VL.iSeq, VL.itemsD, VL.gStr, VL.gStrC, VL.gIntA, VL.vSplit, VL.vJoin, VL.itemsOf, VL.gTuple, VL.gList, VL.vApp, VL.chg, VL.notIn, VL.gIxK, VL.gInK, VL.lookD, VL.vAug, hl, strs_len, noMut_strs]; rfl) (fun w hw => by
    have e : c_is_number [.str w] = .ok (.bl (isN w)) 2 := h w hw
    refine ⟨[some (0, .lst (strsD ws)), some (0, .str w)], by simp [VL.vDef, VL.env0, VL.vSeq, VL.vSet, VL.put, VL.frz, VL.thaw, VL.vName, VL.nrm, VL.noMut, VL.noMutL, VL.v2, VL.v1, VL.vC, VL.gIC, VL.gI, VL.gAdd, VL.gMul, VL.cMul, VL.vCons, VL.vCall, VL.g1, VL.gInt, VL.gLen, VL.gAbs, VL.vRet, VL.vRetName, VL.vIfS, VL.tB_, VL.tV, VL.vLst, VL.vTup, VL.lstRv, VL.gridChild, VL.isFlat, VL.dsOf, VL.alOf, VL.mkL, VL.gCat, VL.gCatT, VL.gCatS, VL.gIx, VL.gIxA, VL.atD, VL.gEq, VL.gIsN, VL.gIsB, VL.gIsi, VL.isiD, VL.vAnd, VL.vOr, VL.vNot, VL.truD, VL.tNot_, VL.tAnd_, VL.tOr_, VL.vNeg, VL.vCallF, VL.frRv, VL.vFor, VL.loopV, VL.gN, VL.iRange1, VL.upTo, VL.rngOk, VL.vComp, VL.compV, VL.compRv, VL.wipeE, VL.iSeq, VL.itemsD, VL.gStr, VL.gStrC, VL.gIntA, VL.vSplit, VL.vJoin, VL.itemsOf, VL.gTuple, VL.gList, VL.vApp, VL.chg, VL.notIn, VL.gIxK, VL.gInK, VL.lookD, VL.vAug], rfl, by simp [VL.vDef, VL.env0, VL.vSeq, VL.vSet, VL.put, VL.frz, VL.thaw, VL.vName, VL.nrm, VL.noMut, VL.noMutL, VL.v2, VL.v1, VL.vC, VL.gIC, VL.gI, VL.gAdd, VL.gMul, VL.cMul, VL.vCons, VL.vCall, VL.g1, VL.gInt, VL.gLen, VL.gAbs, VL.vRet, VL.vRetName, VL.vIfS, VL.tB_, VL.tV, VL.vLst, VL.vTup, VL.lstRv, VL.gridChild, VL.isFlat, VL.dsOf, VL.alOf, VL.mkL, VL.gCat, VL.gCatT, VL.gCatS, VL.gIx, VL.gIxA, VL.atD, VL.gEq, VL.gIsN, VL.gIsB, VL.gIsi, VL.isiD, VL.vAnd, VL.vOr, VL.vNot, VL.truD, VL.tNot_, VL.tAnd_, VL.tOr_, VL.vNeg, VL.vCallF, VL.frRv, VL.vFor, VL.loopV, VL.gN, VL.iRange1, VL.upTo, VL.rngOk, VL.vComp, VL.compV, VL.compRv, VL.wipeE, VL.iSeq, VL.itemsD, VL.gStr, VL.gStrC, VL.gIntA, VL.vSplit, VL.vJoin, VL.itemsOf, VL.gTuple, VL.gList, VL.vApp, VL.chg, VL.notIn, VL.gIxK, VL.gInK, VL.lookD, VL.vAug, e]⟩), compRv_map (fun _ _ => rfl)]
theorem e_numsB {ws : List Str} (hn : ws.length ≤ 1000) (h : ∀ w ∈ ws, kN w) (hb : ws.all isN = false) : c_read_numbers [.lst (strsD ws)] = .ok .non 2 := by
  refine def_ret ?_
  show b_read_numbers [some (0, .lst (strsD ws)), none] = _
  unfold b_read_numbers
  have e := comp_isN hn h
  have eb := blsD_mapF isN ws
  have ea : (ws.map isN).all id = false := by rw [List.all_map]; exact hb
  simp [VL.vDef, VL.env0, VL.vSeq, VL.vSet, VL.put, VL.frz, VL.thaw, VL.vName, VL.nrm, VL.noMut, VL.noMutL, VL.v2, VL.v1, VL.vC, VL.gIC, VL.gI, VL.gAdd, VL.gMul, VL.cMul, VL.vCons, VL.vCall, VL.g1, VL.gInt, VL.gLen, VL.gAbs, VL.vRet, VL.vRetName, VL.vIfS, VL.tB_, VL.tV, VL.vLst, VL.vTup, VL.lstRv, VL.gridChild, VL.isFlat, VL.dsOf, VL.alOf, VL.mkL, VL.gCat, VL.gCatT, VL.gCatS, VL.gIx, VL.gIxA, VL.atD, VL.gEq, VL.gIsN, VL.gIsB, VL.gIsi, VL.isiD, VL.vAnd, VL.vOr, VL.vNot, VL.truD, VL.tNot_, VL.tAnd_, VL.tOr_, VL.vNeg, VL.vCallF, VL.frRv, VL.vFor, VL.loopV, VL.gN, VL.iRange1, VL.upTo, VL.rngOk, VL.gStr, VL.gStrC, VL.gIntA, VL.vSplit, VL.vJoin, VL.itemsOf, VL.gTuple, VL.gList, VL.vApp, VL.chg, VL.notIn, VL.gIxK, VL.gInK, VL.lookD, VL.vAug, e, gAll, eb, ea]
theorem e_numsG {as : List Int} (hn : as.length ≤ 1000) (h : ∀ a ∈ as, sm a) : c_read_numbers [.lst (strsD (as.map nm))] = .ok (.lst (as.map .int)) 2 := by
  refine def_ret ?_
  show b_read_numbers [some (0, .lst (strsD (as.map nm))), none] = _
  unfold b_read_numbers
  have k : ∀ w ∈ as.map nm, kN w ∧ isN w = true := fun w hw => by
    obtain ⟨a, ha, rfl⟩ := List.mem_map.mp hw
    exact kN_of (nm_facts (h a ha)).1
  have e := comp_isN (ws := as.map nm) (by rw [List.length_map]; exact hn) fun w hw => (k w hw).1
  have eb := blsD_mapF isN (as.map nm)
  have ea : ((as.map nm).map isN).all id = true := by
    rw [List.all_map, List.all_eq_true]
    exact fun w hw => (k w hw).2
  have e2 : vComp (iSeq (vName 0)) [1] (gN 1) (fun _ => some true) (vCall (g1 gIntA) (vCons (vName 1) (fun _ => some []))) [some (0, .lst (strsD (as.map nm))), none] = some ⟨.lst (as.map .int), 2, []⟩ := by
    have hl : as.length ≤ 16777216 := by omega
    rw [comp_mapX (al := [0]) (xs := as) (fun a => D.str (nm a)) (fun a => ⟨.int a, 2, []⟩) (by simp [VL.vDef, VL.env0, VL.vSeq, VL.vSet, VL.put, VL.frz, VL.thaw, VL.vName, VL.nrm, VL.noMut, VL.noMutL, VL.v2, VL.v1, VL.vC, VL.gIC, VL.gI, VL.gAdd, VL.gMul, VL.cMul, VL.vCons, VL.vCall, VL.g1, VL.gInt, VL.gLen, VL.gAbs, VL.vRet, VL.vRetName, VL.vIfS, VL.tB_, VL.tV, VL.vLst, VL.vTup, VL.lstRv, VL.gridChild, VL.isFlat, VL.dsOf, VL.alOf, VL.mkL, VL.gCat, VL.gCatT, VL.gCatS, VL.gIx, VL.gIxA, VL.atD, VL.gEq, VL.gIsN, VL.gIsB, VL.gIsi, VL.isiD, VL.vAnd, VL.vOr, VL.vNot, VL.truD, VL.tNot_, VL.tAnd_, VL.tOr_, VL.vNeg, VL.vCallF, VL.frRv, VL.vFor, VL.loopV, VL.gN, VL.iRange1, VL.upTo, VL.rngOk, VL.vComp, VL.compV, VL.compRv, VL.wipeE, VL.iSeq, VL.itemsD, VL.gStr, VL.gStrC, VL.gIntA, VL.vSplit, VL.vJoin, VL.itemsOf, VL.gTuple, VL.gList, VL.vApp, VL.chg, VL.notIn, VL.gIxK, VL.gInK, VL.lookD, VL.vAug, hl, strs_len, noMut_strs]; rw [map_strs]) (fun a ha => by
      obtain ⟨_, e1, e3, _⟩ := nm_facts (h a ha)
      have e4 : (nm a).length ≤ 640 := by omega
      refine ⟨[some (0, .lst (strsD (as.map nm))), some (0, .str (nm a))], by simp [VL.vDef, VL.env0, VL.vSeq, VL.vSet, VL.put, VL.frz, VL.thaw, VL.vName, VL.nrm, VL.noMut, VL.noMutL, VL.v2, VL.v1, VL.vC, VL.gIC, VL.gI, VL.gAdd, VL.gMul, VL.cMul, VL.vCons, VL.vCall, VL.g1, VL.gInt, VL.gLen, VL.gAbs, VL.vRet, VL.vRetName, VL.vIfS, VL.tB_, VL.tV, VL.vLst, VL.vTup, VL.lstRv, VL.gridChild, VL.isFlat, VL.dsOf, VL.alOf, VL.mkL, VL.gCat, VL.gCatT, VL.gCatS, VL.gIx, VL.gIxA, VL.atD, VL.gEq, VL.gIsN, VL.gIsB, VL.gIsi, VL.isiD, VL.vAnd, VL.vOr, VL.vNot, VL.truD, VL.tNot_, VL.tAnd_, VL.tOr_, VL.vNeg, VL.vCallF, VL.frRv, VL.vFor, VL.loopV, VL.gN, VL.iRange1, VL.upTo, VL.rngOk, VL.vComp, VL.compV, VL.compRv, VL.wipeE, VL.iSeq, VL.itemsD, VL.gStr, VL.gStrC, VL.gIntA, VL.vSplit, VL.vJoin, VL.itemsOf, VL.gTuple, VL.gList, VL.vApp, VL.chg, VL.notIn, VL.gIxK, VL.gInK, VL.lookD, VL.vAug], rfl, by simp [VL.vDef, VL.env0, VL.vSeq, VL.vSet, VL.put, VL.frz, VL.thaw, VL.vName, VL.nrm, VL.noMut, VL.noMutL, VL.v2, VL.v1, VL.vC, VL.gIC, VL.gI, VL.gAdd, VL.gMul, VL.cMul, VL.vCons, VL.vCall, VL.g1, VL.gInt, VL.gLen, VL.gAbs, VL.vRet, VL.vRetName, VL.vIfS, VL.tB_, VL.tV, VL.vLst, VL.vTup, VL.lstRv, VL.gridChild, VL.isFlat, VL.dsOf, VL.alOf, VL.mkL, VL.gCat, VL.gCatT, VL.gCatS, VL.gIx, VL.gIxA, VL.atD, VL.gEq, VL.gIsN, VL.gIsB, VL.gIsi, VL.isiD, VL.vAnd, VL.vOr, VL.vNot, VL.truD, VL.tNot_, VL.tAnd_, VL.tOr_, VL.vNeg, VL.vCallF, VL.frRv, VL.vFor, VL.loopV, VL.gN, VL.iRange1, VL.upTo, VL.rngOk, VL.vComp, VL.compV, VL.compRv, VL.wipeE, VL.iSeq, VL.itemsD, VL.gStr, VL.gStrC, VL.gIntA, VL.vSplit, VL.vJoin, VL.itemsOf, VL.gTuple, VL.gList, VL.vApp, VL.chg, VL.notIn, VL.gIxK, VL.gInK, VL.lookD, VL.vAug, e4, e1]⟩), compRv_map (fun _ _ => rfl)]
  generalize as.map nm = ws at e eb ea e2 ⊢
  simp [VL.vDef, VL.env0, VL.vSeq, VL.vSet, VL.put, VL.frz, VL.thaw, VL.vName, VL.nrm, VL.noMut, VL.noMutL, VL.v2, VL.v1, VL.vC, VL.gIC, VL.gI, VL.gAdd, VL.gMul, VL.cMul, VL.vCons, VL.vCall, VL.g1, VL.gInt, VL.gLen, VL.gAbs, VL.vRet, VL.vRetName, VL.vIfS, VL.tB_, VL.tV, VL.vLst, VL.vTup, VL.lstRv, VL.gridChild, VL.isFlat, VL.dsOf, VL.alOf, VL.mkL, VL.gCat, VL.gCatT, VL.gCatS, VL.gIx, VL.gIxA, VL.atD, VL.gEq, VL.gIsN, VL.gIsB, VL.gIsi, VL.isiD, VL.vAnd, VL.vOr, VL.vNot, VL.truD, VL.tNot_, VL.tAnd_, VL.tOr_, VL.vNeg, VL.vCallF, VL.frRv, VL.vFor, VL.loopV, VL.gN, VL.iRange1, VL.upTo, VL.rngOk, VL.gStr, VL.gStrC, VL.gIntA, VL.vSplit, VL.vJoin, VL.itemsOf, VL.gTuple, VL.gList, VL.vApp, VL.chg, VL.notIn, VL.gIxK, VL.gInK, VL.lookD, VL.vAug, e, gAll, eb, ea, e2]

/-! ### reading a move -/
theorem FORMS_name (m : Mv) : lookD m.name K_FORMS = some (.int m.nums.length) := by cases m <;> rfl
theorem e_rm_good {m : Mv} (h : m.ok) : ∃ l, c_read_move [.str (Txt.join " " m.ws)] = .ok m.d l := by
  have sp : Txt.split (Txt.join " " m.ws) " " = m.ws := split_sp (by cases m <;> simp [Mv.ws]) fun w hw => (ws_len h w hw).2.2.1
  have ll := line_len (rowOf_ok h)
  have hl : (Txt.join " " m.ws).length ≤ 16777000 := by unfold lineR rowOf at ll; dsimp only at ll; omega
  have hsp : (Str.ofString " ").length = 1 := len_sp
  have en := e_numsG (as := m.nums) (by cases m <;> simp [Mv.nums]) (Mv.sms h)
  have ef := FORMS_name m
  have hd : strsD m.ws = .str m.name :: strsD (m.nums.map nm) := rfl
  have ok : PyData.strOk m.name = true := (ws_len h _ List.mem_cons_self).2.1
  have hd0 : L2.atI (D.str m.name :: strsD (m.nums.map nm)) 0 = some (.str m.name) := atI_zero _ _
  have hlen : (strsD (m.nums.map nm)).length = m.nums.length := by rw [strs_len, List.length_map]
  refine ⟨2, def_ret ?_⟩
  show b_read_move [some (0, .str (Txt.join " " m.ws)), none, none] = _
  unfold b_read_move
  have md : m.d = .tup (.str m.name :: m.nums.map .int) := by cases m <;> rfl
  have nmi := noMut_ints m.nums
  have nms := noMut_strs (m.nums.map nm)
  rw [md]
  have h4 : m.nums.length ≤ 4 := by cases m <;> simp [Mv.nums]
  generalize strsD (m.nums.map nm) = T at *
  generalize m.nums = as at *
  have hq : 1 + as.length ≤ 16777216 := by omega
  simp [VL.vDef, VL.env0, VL.vSeq, VL.vSet, VL.put, VL.frz, VL.thaw, VL.vName, VL.nrm, VL.noMut, VL.noMutL, VL.v2, VL.v1, VL.vC, VL.gIC, VL.gI, VL.gAdd, VL.gMul, VL.cMul, VL.vCons, VL.vCall, VL.g1, VL.gInt, VL.gLen, VL.gAbs, VL.vRet, VL.vRetName, VL.vIfS, VL.tB_, VL.tV, VL.vLst, VL.vTup, VL.lstRv, VL.gridChild, VL.isFlat, VL.dsOf, VL.alOf, VL.mkL, VL.gCat, VL.gCatT, VL.gCatS, VL.gIx, VL.gIxA, VL.atD, VL.gEq, VL.gIsN, VL.gIsB, VL.gIsi, VL.isiD, VL.vAnd, VL.vOr, VL.vNot, VL.truD, VL.tNot_, VL.tAnd_, VL.tOr_, VL.vNeg, VL.vCallF, VL.frRv, VL.vFor, VL.loopV, VL.gN, VL.iRange1, VL.upTo, VL.rngOk, VL.gStr, VL.gStrC, VL.gIntA, VL.vSplit, VL.vJoin, VL.itemsOf, VL.gTuple, VL.gList, VL.vApp, VL.chg, VL.notIn, VL.gIxK, VL.gInK, VL.lookD, VL.vAug, sp, hl, hsp, hd, hd0, ef, hlen, eqD_int, vSlice, vPart, cutD_drop, en, nmi, nms, gCatT, hq]
def BadW (ws : List Str) : Prop := ∃ h t, ws = h :: t ∧ (lookD h K_FORMS = none ∨ (∃ k : Int, lookD h K_FORMS = some (.int k) ∧ (t.length : Int) ≠ k) ∨ ((∀ w ∈ t, kN w) ∧ t.all isN = false))
theorem forms_cases (h : Str) : lookD h K_FORMS = none ∨ ∃ k : Int, lookD h K_FORMS = some (.int k) := by
  unfold K_FORMS
  simp only [lookD]
  split
  · exact .inr ⟨_, rfl⟩
  · split
    · exact .inr ⟨_, rfl⟩
    · split
      · exact .inr ⟨_, rfl⟩
      · exact .inl rfl
theorem e_rm_bad {ws : List Str} {b : Bool} (hb : BadW ws) (hr : rOk (ws, b)) : c_read_move [.str (Txt.join " " ws)] = .ok .non 2 := by
  obtain ⟨h, t, rfl, hb⟩ := hb
  have sp : Txt.split (Txt.join " " (h :: t)) " " = h :: t := split_sp (by simp) fun w hw => (hr.2 w hw).2.2.1
  have ll := line_len hr
  have hl : (Txt.join " " (h :: t)).length ≤ 16777000 := by unfold lineR at ll; dsimp only at ll; omega
  have hsp : (Str.ofString " ").length = 1 := len_sp
  have hd : strsD (h :: t) = .str h :: strsD t := rfl
  have hd0 : L2.atI (D.str h :: strsD t) 0 = some (.str h) := atI_zero _ _
  have hlen : (strsD t).length = t.length := strs_len t
  have nms := noMut_strs t
  refine def_ret ?_
  show b_read_move [some (0, .str (Txt.join " " (h :: t))), none, none] = _
  unfold b_read_move
  have en : t.all isN = false → (∀ w ∈ t, kN w) → c_read_numbers [.lst (strsD t)] = .ok .non 2 := fun a k => e_numsB (by have : (h :: t).length ≤ 8 := hr.1; simp at this; omega) k a
  generalize strsD t = T at *
  rcases forms_cases h with ef | ⟨k, ef⟩
  · simp [VL.vDef, VL.env0, VL.vSeq, VL.vSet, VL.put, VL.frz, VL.thaw, VL.vName, VL.nrm, VL.noMut, VL.noMutL, VL.v2, VL.v1, VL.vC, VL.gIC, VL.gI, VL.gAdd, VL.gMul, VL.cMul, VL.vCons, VL.vCall, VL.g1, VL.gInt, VL.gLen, VL.gAbs, VL.vRet, VL.vRetName, VL.vIfS, VL.tB_, VL.tV, VL.vLst, VL.vTup, VL.lstRv, VL.gridChild, VL.isFlat, VL.dsOf, VL.alOf, VL.mkL, VL.gCat, VL.gCatT, VL.gCatS, VL.gIx, VL.gIxA, VL.atD, VL.gEq, VL.gIsN, VL.gIsB, VL.gIsi, VL.isiD, VL.vAnd, VL.vOr, VL.vNot, VL.truD, VL.tNot_, VL.tAnd_, VL.tOr_, VL.vNeg, VL.vCallF, VL.frRv, VL.vFor, VL.loopV, VL.gN, VL.iRange1, VL.upTo, VL.rngOk, VL.gStr, VL.gStrC, VL.gIntA, VL.vSplit, VL.vJoin, VL.itemsOf, VL.gTuple, VL.gList, VL.vApp, VL.chg, VL.notIn, VL.gIxK, VL.gInK, VL.lookD, VL.vAug, sp, hl, hsp, hd, hd0, ef, hlen, nms]
  · by_cases hk : (t.length : Int) = k
    · rcases hb with hb | ⟨k', e', hb⟩ | ⟨k1, k2⟩
      · rw [ef] at hb; cases hb
      · rw [ef] at e'; cases e'; exact absurd hk hb
      · subst hk
        have e2 := en k2 k1
        simp [VL.vDef, VL.env0, VL.vSeq, VL.vSet, VL.put, VL.frz, VL.thaw, VL.vName, VL.nrm, VL.noMut, VL.noMutL, VL.v2, VL.v1, VL.vC, VL.gIC, VL.gI, VL.gAdd, VL.gMul, VL.cMul, VL.vCons, VL.vCall, VL.g1, VL.gInt, VL.gLen, VL.gAbs, VL.vRet, VL.vRetName, VL.vIfS, VL.tB_, VL.tV, VL.vLst, VL.vTup, VL.lstRv, VL.gridChild, VL.isFlat, VL.dsOf, VL.alOf, VL.mkL, VL.gCat, VL.gCatT, VL.gCatS, VL.gIx, VL.gIxA, VL.atD, VL.gEq, VL.gIsN, VL.gIsB, VL.gIsi, VL.isiD, VL.vAnd, VL.vOr, VL.vNot, VL.truD, VL.tNot_, VL.tAnd_, VL.tOr_, VL.vNeg, VL.vCallF, VL.frRv, VL.vFor, VL.loopV, VL.gN, VL.iRange1, VL.upTo, VL.rngOk, VL.gStr, VL.gStrC, VL.gIntA, VL.vSplit, VL.vJoin, VL.itemsOf, VL.gTuple, VL.gList, VL.vApp, VL.chg, VL.notIn, VL.gIxK, VL.gInK, VL.lookD, VL.vAug, sp, hl, hsp, hd, hd0, ef, hlen, eqD_int, vSlice, vPart, cutD_drop, e2, nms]
    · simp [VL.vDef, VL.env0, VL.vSeq, VL.vSet, VL.put, VL.frz, VL.thaw, VL.vName, VL.nrm, VL.noMut, VL.noMutL, VL.v2, VL.v1, VL.vC, VL.gIC, VL.gI, VL.gAdd, VL.gMul, VL.cMul, VL.vCons, VL.vCall, VL.g1, VL.gInt, VL.gLen, VL.gAbs, VL.vRet, VL.vRetName, VL.vIfS, VL.tB_, VL.tV, VL.vLst, VL.vTup, VL.lstRv, VL.gridChild, VL.isFlat, VL.dsOf, VL.alOf, VL.mkL, VL.gCat, VL.gCatT, VL.gCatS, VL.gIx, VL.gIxA, VL.atD, VL.gEq, VL.gIsN, VL.gIsB, VL.gIsi, VL.isiD, VL.vAnd, VL.vOr, VL.vNot, VL.truD, VL.tNot_, VL.tAnd_, VL.tOr_, VL.vNeg, VL.vCallF, VL.frRv, VL.vFor, VL.loopV, VL.gN, VL.iRange1, VL.upTo, VL.rngOk, VL.gStr, VL.gStrC, VL.gIntA, VL.vSplit, VL.vJoin, VL.itemsOf, VL.gTuple, VL.gList, VL.vApp, VL.chg, VL.notIn, VL.gIxK, VL.gInK, VL.lookD, VL.vAug, sp, hl, hsp, hd, hd0, ef, hlen, eqD_int, hk, nms]
/-- a row that is right or is not -/
def rowP (r : Rw) : Prop := (∃ m : Mv, m.ok ∧ r = rowOf m) ∨ (r.2 = false ∧ BadW r.1 ∧ rOk r)
theorem rowP_ok {r : Rw} (h : rowP r) : rOk r := by
  rcases h with ⟨m, hm, rfl⟩ | ⟨_, _, h⟩
  · exact rowOf_ok hm
  · exact h
theorem lines_nl {rs : List Rw} (h : ∀ r ∈ rs, rOk r) : ∀ x ∈ rs.map lineR, 10 ∉ tl x := by
  intro x hx
  obtain ⟨r, hr, rfl⟩ := List.mem_map.mp hx
  exact mem_joinT " " 10 (by decide +kernel) r.1 fun w hw => ((h r hr).2 w hw).2.2.2
theorem text_ok {rs : List Rw} (h : ∀ r ∈ rs, rOk r) : PyData.strOk (textR rs) = true := strOk_join (by decide +kernel) _ fun x hx => by
  obtain ⟨r, hr, rfl⟩ := List.mem_map.mp hx
  exact strOk_join (by decide +kernel) _ fun w hw => ((h r hr).2 w hw).2.1
theorem rows_split {rs : List Rw} (h : ∀ r ∈ rs, rOk r) (hne : rs ≠ []) : Txt.split (textR rs) "\n" = rs.map lineR := split_nl (by simpa using hne) (lines_nl h)
end VL

namespace VL
open PySem TL
theorem lineR_get {rs : List Rw} {j : Nat} (h : j < rs.length) {d : D} (hj : (numD 0 (strsD (rs.map lineR)))[j]? = some d) : d = .tup [.int (j : Int), .str (lineR rs[j])] := by
  have e : (strsD (rs.map lineR))[j]? = some (.str (lineR rs[j])) := by
    unfold strsD
    rw [List.map_map, List.getElem?_map, List.getElem?_eq_getElem h]; rfl
  rw [numD_get 0 _ j _ e] at hj
  cases hj
  rw [Int.zero_add]
theorem text_ne {m : Mv} {rs : List Rw} : textR (rowOf m :: rs) ≠ "" := by
  intro z
  have h1 : ∀ s x : Str, ∀ r : List Str, x.length ≤ (Txt.join s (x :: r)).length := fun s x r => by
    cases r with
    | nil => rw [join_one]; exact Nat.le_refl _
    | cons y r => rw [join_cons, Str.length_append, Str.length_append]; omega
  have a := h1 "\n" (lineR (rowOf m)) (rs.map lineR)
  have b := h1 " " m.name (m.nums.map nm)
  have c : 4 ≤ m.name.length := by
    have q : ∀ s ∈ (["enter", "pass", "swap"] : List Str), 4 ≤ s.length := by decide +kernel
    exact q _ (by cases m <;> simp [Mv.name])
  have d : (textR (rowOf m :: rs)).length = 0 := by rw [z]; rfl
  have e : Txt.join " " (m.name :: m.nums.map nm) = lineR (rowOf m) := rfl
  rw [e] at b
  have f : Txt.join "\n" (lineR (rowOf m) :: rs.map lineR) = textR (rowOf m :: rs) := rfl
  rw [f] at a
  omega
/-- the loop of read_run -/
def IR (t : Str) (rs : List Rw) (k : Nat) (e : Ev) : Prop := ∃ (fl : Nat) (ms : List Mv) (s2 s3 s4 : Slot), e = [some (0, .str t), some (fl, .lst (ms.map Mv.d)), s2, s3, s4] ∧ 1 ≤ fl ∧ (∀ m ∈ ms, m.ok) ∧ rs.take k = ms.map rowOf
theorem rr_step {t : Str} {rs : List Rw} (hn : rs.length ≤ 500) {j : Nat} (hj : j < rs.length) {m : Mv} (hm : m.ok) (hr : rs[j] = rowOf m) {e : Ev} (hI : IR t rs j e) :
    ∃ e1, gT 2 (gsCons (gN 2) (gsCons (gN 3) (gsNil))) (.tup [.int (j : Int), .str (lineR rs[j])]) e = some e1 ∧ En ((vSeq (vSet 4 (vCallF c_read_move (vCons (vName 3) (fun _ => some []))))
  (vSeq (vIfS (tB_ (v1 (gIsN false) (vName 4))) (vRaise 2 ["line"] (vCons (v2 gAdd (vName 2) (vC (.int 1))) (fun _ => some []))) ((fun e => .nx e)))
  (vApp 1 (vName 4)))) e1) fun r => ∃ e2, r = .nx e2 ∧ IR t rs (j + 1) e2 := by
  obtain ⟨fl, ms, s2, s3, s4, rfl, a1, a2, a3⟩ := hI
  refine ⟨_, by (simp [VL.vDef, VL.env0, VL.vSeq, VL.vSet, VL.put, VL.frz, VL.thaw, VL.vName, VL.nrm, VL.noMut, VL.noMutL, VL.v2, VL.v1, VL.vC, VL.gIC, VL.gI, VL.gAdd, VL.gMul, VL.cMul, VL.vCons, VL.vCall, VL.g1, VL.gInt, VL.gLen, VL.gAbs, VL.vRet, VL.vRetName, VL.vIfS, VL.tB_, VL.tV, VL.vLst, VL.vTup, VL.lstRv, VL.gridChild, VL.isFlat, VL.dsOf, VL.alOf, VL.mkL, VL.gCat, VL.gCatT, VL.gCatS, VL.gIx, VL.gIxA, VL.atD, VL.gEq, VL.gIsN, VL.gIsB, VL.gIsi, VL.isiD, VL.vAnd, VL.vOr, VL.vNot, VL.truD, VL.tNot_, VL.tAnd_, VL.tOr_, VL.vNeg, VL.vCallF, VL.frRv, VL.vFor, VL.loopV, VL.gN, VL.iRange1, VL.upTo, VL.rngOk, VL.vComp, VL.compV, VL.compRv, VL.wipeE, VL.iSeq, VL.itemsD, VL.gStr, VL.gStrC, VL.gIntA, VL.vSplit, VL.vJoin, VL.itemsOf, VL.gTuple, VL.gList, VL.vApp, VL.chg, VL.notIn, VL.gIxK, VL.gInK, VL.lookD, VL.vAug, gT, gsCons, gsNil] <;> first | exact rfl | exact ⟨rfl, rfl⟩ | exact ⟨rfl, rfl, rfl⟩), ?_⟩
  obtain ⟨l, er⟩ := e_rm_good hm
  have el : lineR rs[j] = Txt.join " " m.ws := by rw [hr]; rfl
  rw [el]
  have nd : noMut m.d = true := by cases m <;> rfl
  have hl : ms.length < 16777216 := by
    have := congrArg List.length a3
    rw [List.length_map] at this
    have h2 : (rs.take j).length ≤ rs.length := List.length_take_le' ..
    omega
  refine En.seq (by (simp [VL.vDef, VL.env0, VL.vSeq, VL.vSet, VL.put, VL.frz, VL.thaw, VL.vName, VL.nrm, VL.noMut, VL.noMutL, VL.v2, VL.v1, VL.vC, VL.gIC, VL.gI, VL.gAdd, VL.gMul, VL.cMul, VL.vCons, VL.vCall, VL.g1, VL.gInt, VL.gLen, VL.gAbs, VL.vRet, VL.vRetName, VL.vIfS, VL.tB_, VL.tV, VL.vLst, VL.vTup, VL.lstRv, VL.gridChild, VL.isFlat, VL.dsOf, VL.alOf, VL.mkL, VL.gCat, VL.gCatT, VL.gCatS, VL.gIx, VL.gIxA, VL.atD, VL.gEq, VL.gIsN, VL.gIsB, VL.gIsi, VL.isiD, VL.vAnd, VL.vOr, VL.vNot, VL.truD, VL.tNot_, VL.tAnd_, VL.tOr_, VL.vNeg, VL.vCallF, VL.frRv, VL.vFor, VL.loopV, VL.gN, VL.iRange1, VL.upTo, VL.rngOk, VL.vComp, VL.compV, VL.compRv, VL.wipeE, VL.iSeq, VL.itemsD, VL.gStr, VL.gStrC, VL.gIntA, VL.vSplit, VL.vJoin, VL.itemsOf, VL.gTuple, VL.gList, VL.vApp, VL.chg, VL.notIn, VL.gIxK, VL.gInK, VL.lookD, VL.vAug, er, nd] <;> first | exact rfl | exact ⟨rfl, rfl⟩ | exact ⟨rfl, rfl, rfl⟩)) ?_
  refine En.retIf false (by cases m <;> simp [VL.vDef, VL.env0, VL.vSeq, VL.vSet, VL.put, VL.frz, VL.thaw, VL.vName, VL.nrm, VL.noMut, VL.noMutL, VL.v2, VL.v1, VL.vC, VL.gIC, VL.gI, VL.gAdd, VL.gMul, VL.cMul, VL.vCons, VL.vCall, VL.g1, VL.gInt, VL.gLen, VL.gAbs, VL.vRet, VL.vRetName, VL.vIfS, VL.tB_, VL.tV, VL.vLst, VL.vTup, VL.lstRv, VL.gridChild, VL.isFlat, VL.dsOf, VL.alOf, VL.mkL, VL.gCat, VL.gCatT, VL.gCatS, VL.gIx, VL.gIxA, VL.atD, VL.gEq, VL.gIsN, VL.gIsB, VL.gIsi, VL.isiD, VL.vAnd, VL.vOr, VL.vNot, VL.truD, VL.tNot_, VL.tAnd_, VL.tOr_, VL.vNeg, VL.vCallF, VL.frRv, VL.vFor, VL.loopV, VL.gN, VL.iRange1, VL.upTo, VL.rngOk, VL.vComp, VL.compV, VL.compRv, VL.wipeE, VL.iSeq, VL.itemsD, VL.gStr, VL.gStrC, VL.gIntA, VL.vSplit, VL.vJoin, VL.itemsOf, VL.gTuple, VL.gList, VL.vApp, VL.chg, VL.notIn, VL.gIxK, VL.gInK, VL.lookD, VL.vAug, Mv.d]) (fun z => by cases z) (fun _ => ?_)
  refine En.skip (En.is (by (simp [VL.vDef, VL.env0, VL.vSeq, VL.vSet, VL.put, VL.frz, VL.thaw, VL.vName, VL.nrm, VL.noMut, VL.noMutL, VL.v2, VL.v1, VL.vC, VL.gIC, VL.gI, VL.gAdd, VL.gMul, VL.cMul, VL.vCons, VL.vCall, VL.g1, VL.gInt, VL.gLen, VL.gAbs, VL.vRet, VL.vRetName, VL.vIfS, VL.tB_, VL.tV, VL.vLst, VL.vTup, VL.lstRv, VL.gridChild, VL.isFlat, VL.dsOf, VL.alOf, VL.mkL, VL.gCat, VL.gCatT, VL.gCatS, VL.gIx, VL.gIxA, VL.atD, VL.gEq, VL.gIsN, VL.gIsB, VL.gIsi, VL.isiD, VL.vAnd, VL.vOr, VL.vNot, VL.truD, VL.tNot_, VL.tAnd_, VL.tOr_, VL.vNeg, VL.vCallF, VL.frRv, VL.vFor, VL.loopV, VL.gN, VL.iRange1, VL.upTo, VL.rngOk, VL.vComp, VL.compV, VL.compRv, VL.wipeE, VL.iSeq, VL.itemsD, VL.gStr, VL.gStrC, VL.gIntA, VL.vSplit, VL.vJoin, VL.itemsOf, VL.gTuple, VL.gList, VL.vApp, VL.chg, VL.notIn, VL.gIxK, VL.gInK, VL.lookD, VL.vAug, nd, a1, hl] <;> first | exact rfl | exact ⟨rfl, rfl⟩ | exact ⟨rfl, rfl, rfl⟩)) ⟨_, rfl, 1, ms ++ [m], _, _, _, by rw [List.map_append]; rfl, Nat.le_refl _, fun x hx => ?_, ?_⟩)
  · rcases List.mem_append.mp hx with hx | hx
    · exact a2 x hx
    · rw [List.mem_singleton] at hx; subst hx; exact hm
  · rw [List.take_succ_eq_append_getElem hj, a3, List.map_append, hr]; rfl
theorem rr_begin {rs : List Rw} (hn : rs.length ≤ 500) (hr : ∀ r ∈ rs, rOk r) (hne : rs ≠ []) (hz : textR rs ≠ "") {P : Rs → Prop}
    (k : En (vSeq (vFor (iEnumD (vCons (vSplit (vName 0) (vC (.str "\n"))) (fun _ => some []))) (gT 2 (gsCons (gN 2) (gsCons (gN 3) (gsNil)))) (vSeq (vSet 4 (vCallF c_read_move (vCons (vName 3) (fun _ => some []))))
  (vSeq (vIfS (tB_ (v1 (gIsN false) (vName 4))) (vRaise 2 ["line"] (vCons (v2 gAdd (vName 2) (vC (.int 1))) (fun _ => some []))) ((fun e => .nx e)))
  (vApp 1 (vName 4)))))
  (vRetName 1) [some (0, .str (textR rs)), some (2, .lst []), none, none, none]) P) : En (b_read_run [some (0, .str (textR rs)), none, none, none, none]) P := by
  have tk := text_ok hr
  have e0 : eqD (.str (textR rs)) (.str "") = some false := by rw [eqD_str tk (by decide +kernel), decide_eq_false hz]
  unfold b_read_run
  refine En.retIf false (by simp [VL.vDef, VL.env0, VL.vSeq, VL.vSet, VL.put, VL.frz, VL.thaw, VL.vName, VL.nrm, VL.noMut, VL.noMutL, VL.v2, VL.v1, VL.vC, VL.gIC, VL.gI, VL.gAdd, VL.gMul, VL.cMul, VL.vCons, VL.vCall, VL.g1, VL.gInt, VL.gLen, VL.gAbs, VL.vRet, VL.vRetName, VL.vIfS, VL.tB_, VL.tV, VL.vLst, VL.vTup, VL.lstRv, VL.gridChild, VL.isFlat, VL.dsOf, VL.alOf, VL.mkL, VL.gCat, VL.gCatT, VL.gCatS, VL.gIx, VL.gIxA, VL.atD, VL.gEq, VL.gIsN, VL.gIsB, VL.gIsi, VL.isiD, VL.vAnd, VL.vOr, VL.vNot, VL.truD, VL.tNot_, VL.tAnd_, VL.tOr_, VL.vNeg, VL.vCallF, VL.frRv, VL.vFor, VL.loopV, VL.gN, VL.iRange1, VL.upTo, VL.rngOk, VL.vComp, VL.compV, VL.compRv, VL.wipeE, VL.iSeq, VL.itemsD, VL.gStr, VL.gStrC, VL.gIntA, VL.vSplit, VL.vJoin, VL.itemsOf, VL.gTuple, VL.gList, VL.vApp, VL.chg, VL.notIn, VL.gIxK, VL.gInK, VL.lookD, VL.vAug, e0]) (fun z => by cases z) (fun _ => En.skip ?_)
  exact En.seq (by (simp [VL.vDef, VL.env0, VL.vSeq, VL.vSet, VL.put, VL.frz, VL.thaw, VL.vName, VL.nrm, VL.noMut, VL.noMutL, VL.v2, VL.v1, VL.vC, VL.gIC, VL.gI, VL.gAdd, VL.gMul, VL.cMul, VL.vCons, VL.vCall, VL.g1, VL.gInt, VL.gLen, VL.gAbs, VL.vRet, VL.vRetName, VL.vIfS, VL.tB_, VL.tV, VL.vLst, VL.vTup, VL.lstRv, VL.gridChild, VL.isFlat, VL.dsOf, VL.alOf, VL.mkL, VL.gCat, VL.gCatT, VL.gCatS, VL.gIx, VL.gIxA, VL.atD, VL.gEq, VL.gIsN, VL.gIsB, VL.gIsi, VL.isiD, VL.vAnd, VL.vOr, VL.vNot, VL.truD, VL.tNot_, VL.tAnd_, VL.tOr_, VL.vNeg, VL.vCallF, VL.frRv, VL.vFor, VL.loopV, VL.gN, VL.iRange1, VL.upTo, VL.rngOk, VL.vComp, VL.compV, VL.compRv, VL.wipeE, VL.iSeq, VL.itemsD, VL.gStr, VL.gStrC, VL.gIntA, VL.vSplit, VL.vJoin, VL.itemsOf, VL.gTuple, VL.gList, VL.vApp, VL.chg, VL.notIn, VL.gIxK, VL.gInK, VL.lookD, VL.vAug] <;> first | exact rfl | exact ⟨rfl, rfl⟩ | exact ⟨rfl, rfl, rfl⟩)) k
theorem rr_iter {rs : List Rw} (hn : rs.length ≤ 500) (hr : ∀ r ∈ rs, rOk r) (hne : rs ≠ []) : iEnumD (vCons (vSplit (vName 0) (vC (.str "\n"))) (fun _ => some [])) [some (0, .str (textR rs)), some (2, .lst []), none, none, none] = some (numD 0 (strsD (rs.map lineR)), []) := by
  have hs := rows_split hr hne
  have tl := text_len hr
  have hl : (textR rs).length ≤ 16777000 := by omega
  have hlen : (strsD (rs.map lineR)).length ≤ 16777216 := by rw [strs_len, List.length_map]; omega
  have hnl : (Str.ofString "\n").length = 1 := len_nl
  simp [VL.vDef, VL.env0, VL.vSeq, VL.vSet, VL.put, VL.frz, VL.thaw, VL.vName, VL.nrm, VL.noMut, VL.noMutL, VL.v2, VL.v1, VL.vC, VL.gIC, VL.gI, VL.gAdd, VL.gMul, VL.cMul, VL.vCons, VL.vCall, VL.g1, VL.gInt, VL.gLen, VL.gAbs, VL.vRet, VL.vRetName, VL.vIfS, VL.tB_, VL.tV, VL.vLst, VL.vTup, VL.lstRv, VL.gridChild, VL.isFlat, VL.dsOf, VL.alOf, VL.mkL, VL.gCat, VL.gCatT, VL.gCatS, VL.gIx, VL.gIxA, VL.atD, VL.gEq, VL.gIsN, VL.gIsB, VL.gIsi, VL.isiD, VL.vAnd, VL.vOr, VL.vNot, VL.truD, VL.tNot_, VL.tAnd_, VL.tOr_, VL.vNeg, VL.vCallF, VL.frRv, VL.vFor, VL.loopV, VL.gN, VL.iRange1, VL.upTo, VL.rngOk, VL.vComp, VL.compV, VL.compRv, VL.wipeE, VL.iSeq, VL.itemsD, VL.gStr, VL.gStrC, VL.gIntA, VL.vSplit, VL.vJoin, VL.itemsOf, VL.gTuple, VL.gList, VL.vApp, VL.chg, VL.notIn, VL.gIxK, VL.gInK, VL.lookD, VL.vAug, iEnumD, hs, hl, hnl, hlen]
theorem rr_len (rs : List Rw) : (numD 0 (strsD (rs.map lineR))).length = rs.length := by rw [numD_length, strs_len, List.length_map]
theorem e_rr_good {ms : List Mv} (hn : ms.length ≤ 500) (h : ∀ m ∈ ms, m.ok) : ∃ d l, c_read_run [.str (textR (ms.map rowOf))] = .ok d l ∧ d = .lst (ms.map Mv.d) ∧ 1 ≤ l := by
  refine En.defI ?_
  show En (b_read_run [some (0, .str (textR (ms.map rowOf))), none, none, none, none]) _
  have hr : ∀ r ∈ ms.map rowOf, rOk r := fun r hr => by
    obtain ⟨m, hm, rfl⟩ := List.mem_map.mp hr
    exact rowOf_ok (h m hm)
  cases ms with
  | nil =>
    have : textR (([] : List Mv).map rowOf) = "" := by unfold textR; rw [List.map_nil, List.map_nil, join_nil]; decide +kernel
    rw [this]
    unfold b_read_run
    have e0 : eqD (.str "") (.str "") = some true := by kernel_rfl
    refine En.retIf true (by simp [VL.vDef, VL.env0, VL.vSeq, VL.vSet, VL.put, VL.frz, VL.thaw, VL.vName, VL.nrm, VL.noMut, VL.noMutL, VL.v2, VL.v1, VL.vC, VL.gIC, VL.gI, VL.gAdd, VL.gMul, VL.cMul, VL.vCons, VL.vCall, VL.g1, VL.gInt, VL.gLen, VL.gAbs, VL.vRet, VL.vRetName, VL.vIfS, VL.tB_, VL.tV, VL.vLst, VL.vTup, VL.lstRv, VL.gridChild, VL.isFlat, VL.dsOf, VL.alOf, VL.mkL, VL.gCat, VL.gCatT, VL.gCatS, VL.gIx, VL.gIxA, VL.atD, VL.gEq, VL.gIsN, VL.gIsB, VL.gIsi, VL.isiD, VL.vAnd, VL.vOr, VL.vNot, VL.truD, VL.tNot_, VL.tAnd_, VL.tOr_, VL.vNeg, VL.vCallF, VL.frRv, VL.vFor, VL.loopV, VL.gN, VL.iRange1, VL.upTo, VL.rngOk, VL.vComp, VL.compV, VL.compRv, VL.wipeE, VL.iSeq, VL.itemsD, VL.gStr, VL.gStrC, VL.gIntA, VL.vSplit, VL.vJoin, VL.itemsOf, VL.gTuple, VL.gList, VL.vApp, VL.chg, VL.notIn, VL.gIxK, VL.gInK, VL.lookD, VL.vAug, e0]) (fun _ => ?_) (fun z => by cases z)
    exact En.seq_ret (by (simp [VL.vDef, VL.env0, VL.vSeq, VL.vSet, VL.put, VL.frz, VL.thaw, VL.vName, VL.nrm, VL.noMut, VL.noMutL, VL.v2, VL.v1, VL.vC, VL.gIC, VL.gI, VL.gAdd, VL.gMul, VL.cMul, VL.vCons, VL.vCall, VL.g1, VL.gInt, VL.gLen, VL.gAbs, VL.vRet, VL.vRetName, VL.vIfS, VL.tB_, VL.tV, VL.vLst, VL.vTup, VL.lstRv, VL.gridChild, VL.isFlat, VL.dsOf, VL.alOf, VL.mkL, VL.gCat, VL.gCatT, VL.gCatS, VL.gIx, VL.gIxA, VL.atD, VL.gEq, VL.gIsN, VL.gIsB, VL.gIsi, VL.isiD, VL.vAnd, VL.vOr, VL.vNot, VL.truD, VL.tNot_, VL.tAnd_, VL.tOr_, VL.vNeg, VL.vCallF, VL.frRv, VL.vFor, VL.loopV, VL.gN, VL.iRange1, VL.upTo, VL.rngOk, VL.vComp, VL.compV, VL.compRv, VL.wipeE, VL.iSeq, VL.itemsD, VL.gStr, VL.gStrC, VL.gIntA, VL.vSplit, VL.vJoin, VL.itemsOf, VL.gTuple, VL.gList, VL.vApp, VL.chg, VL.notIn, VL.gIxK, VL.gInK, VL.lookD, VL.vAug] <;> first | exact rfl | exact ⟨rfl, rfl⟩ | exact ⟨rfl, rfl, rfl⟩)) ⟨_, _, rfl, rfl, by decide⟩
  | cons m ms =>
    have hne : (m :: ms).map rowOf ≠ [] := by simp
    have hz : textR ((m :: ms).map rowOf) ≠ "" := text_ne
    have hn2 : ((m :: ms).map rowOf).length ≤ 500 := by rw [List.length_map]; exact hn
    refine rr_begin hn2 hr hne hz ?_
    refine En.forI (IR (textR ((m :: ms).map rowOf)) ((m :: ms).map rowOf)) (rr_iter hn2 hr hne) ⟨2, [], none, none, none, rfl, by decide, (fun _ z => by cases z), rfl⟩ (fun j d e hj hi => ?_) (fun e hi => ?_)
    · have hj2 : j < ((m :: ms).map rowOf).length := by
        have := (List.getElem?_eq_some_iff.mp hj).1
        rwa [rr_len] at this
      have hd := lineR_get hj2 hj
      subst hd
      have hj3 : j < (m :: ms).length := by rwa [List.length_map] at hj2
      exact rr_step hn2 hj2 (h _ (List.getElem_mem hj3)) (List.getElem_map ..) hi
    · obtain ⟨fl, ms', s2, s3, s4, rfl, a1, a2, a3⟩ := hi
      rw [rr_len, List.take_length] at a3
      have : (m :: ms).map Mv.d = ms'.map Mv.d := by
        have inj : ∀ {xs ys : List Mv}, xs.map rowOf = ys.map rowOf → (∀ x ∈ xs, x.ok) → (∀ y ∈ ys, y.ok) → xs.map Mv.d = ys.map Mv.d := by
          intro xs
          induction xs with
          | nil => intro ys e _ _; cases ys with
            | nil => rfl
            | cons y ys => cases e
          | cons x xs ih =>
            intro ys e hx hy
            cases ys with
            | nil => cases e
            | cons y ys =>
              rw [List.map_cons, List.map_cons] at e
              injection e with e1 e2
              rw [List.map_cons, List.map_cons, ih e2 (fun z hz => hx z (List.mem_cons_of_mem _ hz)) fun z hz => hy z (List.mem_cons_of_mem _ hz)]
              obtain ⟨l1, q1⟩ := e_rm_good (hx x List.mem_cons_self)
              obtain ⟨l2, q2⟩ := e_rm_good (hy y List.mem_cons_self)
              have e3 : x.ws = y.ws := congrArg Prod.fst e1
              rw [e3, q2] at q1
              injection q1 with q3
              rw [q3]
        exact inj a3 h a2
      rw [this]
      exact En.is (by (simp [VL.vDef, VL.env0, VL.vSeq, VL.vSet, VL.put, VL.frz, VL.thaw, VL.vName, VL.nrm, VL.noMut, VL.noMutL, VL.v2, VL.v1, VL.vC, VL.gIC, VL.gI, VL.gAdd, VL.gMul, VL.cMul, VL.vCons, VL.vCall, VL.g1, VL.gInt, VL.gLen, VL.gAbs, VL.vRet, VL.vRetName, VL.vIfS, VL.tB_, VL.tV, VL.vLst, VL.vTup, VL.lstRv, VL.gridChild, VL.isFlat, VL.dsOf, VL.alOf, VL.mkL, VL.gCat, VL.gCatT, VL.gCatS, VL.gIx, VL.gIxA, VL.atD, VL.gEq, VL.gIsN, VL.gIsB, VL.gIsi, VL.isiD, VL.vAnd, VL.vOr, VL.vNot, VL.truD, VL.tNot_, VL.tAnd_, VL.tOr_, VL.vNeg, VL.vCallF, VL.frRv, VL.vFor, VL.loopV, VL.gN, VL.iRange1, VL.upTo, VL.rngOk, VL.vComp, VL.compV, VL.compRv, VL.wipeE, VL.iSeq, VL.itemsD, VL.gStr, VL.gStrC, VL.gIntA, VL.vSplit, VL.vJoin, VL.itemsOf, VL.gTuple, VL.gList, VL.vApp, VL.chg, VL.notIn, VL.gIxK, VL.gInK, VL.lookD, VL.vAug] <;> first | exact rfl | exact ⟨rfl, rfl⟩ | exact ⟨rfl, rfl, rfl⟩)) ⟨_, _, rfl, rfl, a1⟩
theorem e_rr_bad {rs : List Rw} (hn : rs.length ≤ 500) (hr : ∀ r ∈ rs, rOk r) (hz : textR rs ≠ "") {k : Nat} (hk : k < rs.length) (hg : ∀ j (h : j < k), ∃ m : Mv, m.ok ∧ rs[j]'(Nat.lt_trans h hk) = rowOf m) (hb : BadW rs[k].1) :
    c_read_run [.str (textR rs)] = .ex 2 [("line", .int ((k : Int) + 1))] := by
  have hne : rs ≠ [] := fun z => by rw [z] at hk; exact absurd hk (Nat.not_lt_zero _)
  have main : En (b_read_run [some (0, .str (textR rs)), none, none, none, none]) fun r => ∃ e, r = .ex e 2 [("line", .int ((k : Int) + 1))] := by
    refine rr_begin hn hr hne hz ?_
    refine En.forStop (IR (textR rs) rs) k (rr_iter hn hr hne) (by rw [rr_len]; exact hk) ⟨2, [], none, none, none, rfl, by decide, (fun _ z => by cases z), rfl⟩ (fun j d e hj hd hi => ?_) (fun d e hd hi => ?_)
    · have hj2 : j < rs.length := Nat.lt_trans hj hk
      have q := lineR_get hj2 hd
      subst q
      obtain ⟨m, hm, er⟩ := hg j hj
      exact rr_step hn hj2 hm er hi
    · have q := lineR_get hk hd
      subst q
      obtain ⟨fl, ms, s2, s3, s4, rfl, a1, a2, a3⟩ := hi
      have er : c_read_move [.str (lineR rs[k])] = .ok .non 2 := e_rm_bad (b := rs[k].2) hb (hr _ (List.getElem_mem hk))
      refine ⟨_, by (simp [VL.vDef, VL.env0, VL.vSeq, VL.vSet, VL.put, VL.frz, VL.thaw, VL.vName, VL.nrm, VL.noMut, VL.noMutL, VL.v2, VL.v1, VL.vC, VL.gIC, VL.gI, VL.gAdd, VL.gMul, VL.cMul, VL.vCons, VL.vCall, VL.g1, VL.gInt, VL.gLen, VL.gAbs, VL.vRet, VL.vRetName, VL.vIfS, VL.tB_, VL.tV, VL.vLst, VL.vTup, VL.lstRv, VL.gridChild, VL.isFlat, VL.dsOf, VL.alOf, VL.mkL, VL.gCat, VL.gCatT, VL.gCatS, VL.gIx, VL.gIxA, VL.atD, VL.gEq, VL.gIsN, VL.gIsB, VL.gIsi, VL.isiD, VL.vAnd, VL.vOr, VL.vNot, VL.truD, VL.tNot_, VL.tAnd_, VL.tOr_, VL.vNeg, VL.vCallF, VL.frRv, VL.vFor, VL.loopV, VL.gN, VL.iRange1, VL.upTo, VL.rngOk, VL.vComp, VL.compV, VL.compRv, VL.wipeE, VL.iSeq, VL.itemsD, VL.gStr, VL.gStrC, VL.gIntA, VL.vSplit, VL.vJoin, VL.itemsOf, VL.gTuple, VL.gList, VL.vApp, VL.chg, VL.notIn, VL.gIxK, VL.gInK, VL.lookD, VL.vAug, gT, gsCons, gsNil] <;> first | exact rfl | exact ⟨rfl, rfl⟩ | exact ⟨rfl, rfl, rfl⟩), .inr ⟨[some (0, .str (textR rs)), some (fl, .lst (ms.map Mv.d)), some (0, .int k), some (0, .str (lineR rs[k])), some (2, .non)], 2, [("line", .int ((k : Int) + 1))], ?_, _, rfl⟩⟩
      refine En.seq (P := fun r => r = Rs.ex [some (0, .str (textR rs)), some (fl, .lst (ms.map Mv.d)), some (0, .int k), some (0, .str (lineR rs[k])), some (2, .non)] 2 [("line", .int ((k : Int) + 1))]) (by (simp [VL.vDef, VL.env0, VL.vSeq, VL.vSet, VL.put, VL.frz, VL.thaw, VL.vName, VL.nrm, VL.noMut, VL.noMutL, VL.v2, VL.v1, VL.vC, VL.gIC, VL.gI, VL.gAdd, VL.gMul, VL.cMul, VL.vCons, VL.vCall, VL.g1, VL.gInt, VL.gLen, VL.gAbs, VL.vRet, VL.vRetName, VL.vIfS, VL.tB_, VL.tV, VL.vLst, VL.vTup, VL.lstRv, VL.gridChild, VL.isFlat, VL.dsOf, VL.alOf, VL.mkL, VL.gCat, VL.gCatT, VL.gCatS, VL.gIx, VL.gIxA, VL.atD, VL.gEq, VL.gIsN, VL.gIsB, VL.gIsi, VL.isiD, VL.vAnd, VL.vOr, VL.vNot, VL.truD, VL.tNot_, VL.tAnd_, VL.tOr_, VL.vNeg, VL.vCallF, VL.frRv, VL.vFor, VL.loopV, VL.gN, VL.iRange1, VL.upTo, VL.rngOk, VL.vComp, VL.compV, VL.compRv, VL.wipeE, VL.iSeq, VL.itemsD, VL.gStr, VL.gStrC, VL.gIntA, VL.vSplit, VL.vJoin, VL.itemsOf, VL.gTuple, VL.gList, VL.vApp, VL.chg, VL.notIn, VL.gIxK, VL.gInK, VL.lookD, VL.vAug, er] <;> first | exact rfl | exact ⟨rfl, rfl⟩ | exact ⟨rfl, rfl, rfl⟩)) ?_
      refine En.retIf true (by simp [VL.vDef, VL.env0, VL.vSeq, VL.vSet, VL.put, VL.frz, VL.thaw, VL.vName, VL.nrm, VL.noMut, VL.noMutL, VL.v2, VL.v1, VL.vC, VL.gIC, VL.gI, VL.gAdd, VL.gMul, VL.cMul, VL.vCons, VL.vCall, VL.g1, VL.gInt, VL.gLen, VL.gAbs, VL.vRet, VL.vRetName, VL.vIfS, VL.tB_, VL.tV, VL.vLst, VL.vTup, VL.lstRv, VL.gridChild, VL.isFlat, VL.dsOf, VL.alOf, VL.mkL, VL.gCat, VL.gCatT, VL.gCatS, VL.gIx, VL.gIxA, VL.atD, VL.gEq, VL.gIsN, VL.gIsB, VL.gIsi, VL.isiD, VL.vAnd, VL.vOr, VL.vNot, VL.truD, VL.tNot_, VL.tAnd_, VL.tOr_, VL.vNeg, VL.vCallF, VL.frRv, VL.vFor, VL.loopV, VL.gN, VL.iRange1, VL.upTo, VL.rngOk, VL.vComp, VL.compV, VL.compRv, VL.wipeE, VL.iSeq, VL.itemsD, VL.gStr, VL.gStrC, VL.gIntA, VL.vSplit, VL.vJoin, VL.itemsOf, VL.gTuple, VL.gList, VL.vApp, VL.chg, VL.notIn, VL.gIxK, VL.gInK, VL.lookD, VL.vAug]) (fun _ => En.seq_ex (c := 2) (fs := [("line", .int ((k : Int) + 1))]) (by (simp [VL.vDef, VL.env0, VL.vSeq, VL.vSet, VL.put, VL.frz, VL.thaw, VL.vName, VL.nrm, VL.noMut, VL.noMutL, VL.v2, VL.v1, VL.vC, VL.gIC, VL.gI, VL.gAdd, VL.gMul, VL.cMul, VL.vCons, VL.vCall, VL.g1, VL.gInt, VL.gLen, VL.gAbs, VL.vRet, VL.vRetName, VL.vIfS, VL.tB_, VL.tV, VL.vLst, VL.vTup, VL.lstRv, VL.gridChild, VL.isFlat, VL.dsOf, VL.alOf, VL.mkL, VL.gCat, VL.gCatT, VL.gCatS, VL.gIx, VL.gIxA, VL.atD, VL.gEq, VL.gIsN, VL.gIsB, VL.gIsi, VL.isiD, VL.vAnd, VL.vOr, VL.vNot, VL.truD, VL.tNot_, VL.tAnd_, VL.tOr_, VL.vNeg, VL.vCallF, VL.frRv, VL.vFor, VL.loopV, VL.gN, VL.iRange1, VL.upTo, VL.rngOk, VL.vComp, VL.compV, VL.compRv, VL.wipeE, VL.iSeq, VL.itemsD, VL.gStr, VL.gStrC, VL.gIntA, VL.vSplit, VL.vJoin, VL.itemsOf, VL.gTuple, VL.gList, VL.vApp, VL.chg, VL.notIn, VL.gIxK, VL.gInK, VL.lookD, VL.vAug, vRaise] <;> first | exact rfl | exact ⟨rfl, rfl⟩ | exact ⟨rfl, rfl, rfl⟩)) rfl) (fun z => by cases z)
  obtain ⟨e, he⟩ := main
  show vDef 5 b_read_run _ = _
  unfold vDef
  have : env0 5 [.str (textR rs)] = [some (0, .str (textR rs)), none, none, none, none] := rfl
  rw [this, he]
end VL

namespace VL
open PySem TL
theorem ws_length (m : Mv) : m.ws.length = m.nums.length + 1 := by unfold Mv.ws; rw [List.length_cons, List.length_map]
theorem nums_len (m : Mv) : 1 ≤ m.nums.length ∧ m.nums.length ≤ 4 := by cases m <;> simp [Mv.nums]
theorem bad_count {m : Mv} {t : List Str} (h : t.length ≠ m.nums.length) : BadW (m.name :: t) := ⟨_, _, rfl, .inr (.inl ⟨_, FORMS_name m, by omega⟩)⟩
theorem bad_head {h : Str} {t : List Str} (e : lookD h K_FORMS = none) : BadW (h :: t) := ⟨_, _, rfl, .inl e⟩
/-- a word more -/
theorem bad_ins {m : Mv} {w : Str} (hw : lookD w K_FORMS = none) (k : Nat) (hk : k ≤ m.ws.length) : BadW (m.ws.take k ++ [w] ++ m.ws.drop k) := by
  cases k with
  | zero => exact bad_head hw
  | succ k =>
    show BadW (m.name :: ((m.nums.map nm).take k ++ [w] ++ (m.nums.map nm).drop k))
    refine bad_count ?_
    rw [ws_length] at hk
    simp only [List.length_append, List.length_take, List.length_map, List.length_drop, List.length_cons, List.length_nil]
    omega
theorem row_ins {m : Mv} (hm : m.ok) {w : Str} (hw : wOk w) (k : Nat) (b : Bool) : rOk (m.ws.take k ++ [w] ++ m.ws.drop k, b) := by
  have h := rowOf_ok hm
  refine ⟨?_, fun x hx => ?_⟩
  · have := ws_length m; have := (nums_len m).2
    simp only [List.length_append, List.length_take, List.length_drop, List.length_cons, List.length_nil]
    omega
  · simp only [List.mem_append, List.mem_singleton] at hx
    rcases hx with (hx | hx) | hx
    · exact h.2 x (List.mem_of_mem_take hx)
    · subst hx; exact hw
    · exact h.2 x (List.mem_of_mem_drop hx)
theorem bad_del {m : Mv} (hm : m.ok) (k : Nat) (hk : k < m.ws.length) : BadW (m.ws.take k ++ m.ws.drop (k + 1)) := by
  cases k with
  | zero =>
    obtain ⟨a, as, e⟩ : ∃ a as, m.nums = a :: as := by cases m <;> exact ⟨_, _, rfl⟩
    have ha : sm a := Mv.sms hm a (by rw [e]; exact List.mem_cons_self)
    have e2 : m.ws = m.name :: nm a :: as.map nm := by unfold Mv.ws; rw [e]; rfl
    rw [e2]
    exact bad_head (nm_facts ha).2.2.2.2.2.2.2
  | succ k =>
    show BadW (m.name :: ((m.nums.map nm).take k ++ (m.nums.map nm).drop (k + 1)))
    refine bad_count ?_
    rw [ws_length] at hk
    have := (nums_len m).1
    simp only [List.length_append, List.length_take, List.length_map, List.length_drop]
    omega
theorem row_del {m : Mv} (hm : m.ok) (k : Nat) (b : Bool) : rOk (m.ws.take k ++ m.ws.drop (k + 1), b) := by
  have h := rowOf_ok hm
  refine ⟨?_, fun x hx => ?_⟩
  · have := ws_length m; have := (nums_len m).2
    simp only [List.length_append, List.length_take, List.length_drop]
    omega
  · rcases List.mem_append.mp hx with hx | hx
    · exact h.2 x (List.mem_of_mem_take hx)
    · exact h.2 x (List.mem_of_mem_drop hx)
theorem bad_num {m : Mv} (hm : m.ok) {k : Nat} (hk : k < m.nums.length) {w : Str} (hw : w ∈ badWords m.nums[k]) : BadW (m.ws.take (k + 1) ++ [w] ++ m.ws.drop (k + 2)) := by
  refine ⟨m.name, (m.nums.map nm).take k ++ [w] ++ (m.nums.map nm).drop (k + 1), rfl, .inr (.inr ⟨fun x hx => ?_, ?_⟩)⟩
  · simp only [List.mem_append, List.mem_singleton] at hx
    have good : ∀ x ∈ m.nums.map nm, kN x := fun x hx => by
      obtain ⟨a, ha, rfl⟩ := List.mem_map.mp hx
      exact (kN_of (nm_facts (Mv.sms hm a ha)).1).1
    rcases hx with (hx | hx) | hx
    · exact good x (List.mem_of_mem_take hx)
    · subst hx; exact (kN_of (bad_facts (Mv.sms hm _ (List.getElem_mem hk)) hw).1).1
    · exact good x (List.mem_of_mem_drop hx)
  · rw [List.all_append, List.all_append]
    have : isN w = false := (kN_of (bad_facts (Mv.sms hm _ (List.getElem_mem hk)) hw).1).2
    simp [this]
theorem row_num {m : Mv} (hm : m.ok) {k : Nat} (hk : k < m.nums.length) {w : Str} (hw : w ∈ badWords m.nums[k]) (b : Bool) : rOk (m.ws.take (k + 1) ++ [w] ++ m.ws.drop (k + 2), b) := by
  have h := rowOf_ok hm
  refine ⟨?_, fun x hx => ?_⟩
  · have := ws_length m; have := (nums_len m).2
    simp only [List.length_append, List.length_take, List.length_drop, List.length_cons, List.length_nil]
    omega
  · simp only [List.mem_append, List.mem_singleton] at hx
    rcases hx with (hx | hx) | hx
    · exact h.2 x (List.mem_of_mem_take hx)
    · subst hx
      obtain ⟨_, h1, h2, h3, h4⟩ := bad_facts (Mv.sms hm _ (List.getElem_mem hk)) hw
      exact ⟨by omega, h2, h3, h4⟩
    · exact h.2 x (List.mem_of_mem_drop hx)
/-- first words that don't fit -/
def others (m : Mv) : List Str := (["Enter", "PASS", "swaps", "pas", "move", "down", "settle", "", "enter_", "0"] : List Str) ++ (["enter", "pass", "swap"] : List Str).filter (fun w => decide (w ≠ m.name))
theorem bad_first {m : Mv} {w : Str} (hw : w ∈ others m) : BadW (w :: m.ws.drop 1) ∧ wOk w := by
  rcases List.mem_append.mp hw with hw | hw
  · have q : ∀ s ∈ (["Enter", "PASS", "swaps", "pas", "move", "down", "settle", "", "enter_", "0"] : List Str), lookD s K_FORMS = none ∧ s.length ≤ 8 ∧ PyData.strOk s = true ∧ 32 ∉ tl s ∧ 10 ∉ tl s := by
      intro s hs
      simp only [List.mem_cons, List.not_mem_nil, or_false] at hs
      rcases hs with rfl | rfl | rfl | rfl | rfl | rfl | rfl | rfl | rfl | rfl <;> exact ⟨by kernel_rfl, by decide +kernel, by decide +kernel, by decide +kernel, by decide +kernel⟩
    obtain ⟨h1, h2⟩ := q w hw
    exact ⟨bad_head h1, h2⟩
  · obtain ⟨h1, h2⟩ := List.mem_filter.mp hw
    have hne : w ≠ m.name := of_decide_eq_true h2
    have q : ∀ s ∈ (["enter", "pass", "swap"] : List Str), s.length ≤ 8 ∧ PyData.strOk s = true ∧ 32 ∉ tl s ∧ 10 ∉ tl s := by decide +kernel
    refine ⟨?_, q w h1⟩
    simp only [List.mem_cons, List.not_mem_nil, or_false] at h1
    have nl := ws_length m
    refine ⟨w, m.ws.drop 1, rfl, .inr (.inl ?_)⟩
    rw [List.length_drop, nl]
    rcases h1 with rfl | rfl | rfl
    · exact ⟨1, rfl, by cases m <;> simp [Mv.nums, Mv.name] at hne ⊢⟩
    · exact ⟨2, rfl, by cases m <;> simp [Mv.nums, Mv.name] at hne ⊢⟩
    · exact ⟨4, rfl, by cases m <;> simp [Mv.nums, Mv.name] at hne ⊢⟩
theorem row_first {m : Mv} (hm : m.ok) {w : Str} (hw : wOk w) (b : Bool) : rOk (w :: m.ws.drop 1, b) := by
  have h := rowOf_ok hm
  refine ⟨?_, fun x hx => ?_⟩
  · have := ws_length m; have := (nums_len m).2
    simp only [List.length_cons, List.length_drop]
    omega
  · rcases List.mem_cons.mp hx with rfl | hx
    · exact hw
    · exact h.2 x (List.mem_of_mem_drop hx)
end VL

namespace VL
open PySem TL
theorem strsD_cons (w : Str) (ws : List Str) : strsD (w :: ws) = .str w :: strsD ws := rfl
theorem strsD_nil : strsD [] = [] := rfl
def BadR (d : D) : Prop := ∃ ws : List Str, d = .lst (strsD ws) ∧ BadW ws ∧ rOk (ws, false) ∧ 0 < (Txt.join " " ws).length
theorem line_pos2 {x y : Str} {r : List Str} : 0 < (Txt.join " " (x :: y :: r)).length := by
  rw [join_cons, Str.length_append, Str.length_append, len_sp]; omega
theorem line_two {ws : List Str} (h : 2 ≤ ws.length) : 0 < (Txt.join " " ws).length := by
  match ws, h with
  | x :: y :: r, _ => exact line_pos2
theorem nm_pos {a : Int} (h : sm a) : 0 < (nm a).length := by
  obtain ⟨_, _, _, _, _, _, ⟨c, h7, _⟩, _⟩ := nm_facts h
  have e : (nm a).length = (nm a).cps.toList.length := by simp [Str.length]
  cases hl : (nm a).cps.toList with
  | nil => rw [hl] at h7; cases h7
  | cons x r => rw [e, hl]; exact Nat.succ_pos _
theorem name_pos (m : Mv) : 0 < m.name.length := by
  have q : ∀ s ∈ (["enter", "pass", "swap"] : List Str), 0 < s.length := by decide +kernel
  exact q _ (by cases m <;> simp [Mv.name])
theorem del_pos {m : Mv} (hm : m.ok) (k : Nat) (hk : k < m.ws.length) : 0 < (Txt.join " " (m.ws.take k ++ m.ws.drop (k + 1))).length := by
  have wl := ws_length m
  by_cases h : 2 ≤ (m.ws.take k ++ m.ws.drop (k + 1)).length
  · exact line_two h
  · have nl := nums_len m
    have e : m.nums.length = 1 := by
      rw [List.length_append, List.length_take, List.length_drop] at h
      omega
    match m, hm, k, hk with
    | .enter a, hm, 0, _ => show 0 < (Txt.join " " [nm a]).length; rw [join_one]; exact nm_pos hm
    | .enter a, hm, 1, _ => show 0 < (Txt.join " " ["enter"]).length; rw [join_one]; exact name_pos (.enter a)
    | .enter a, hm, k + 2, hk => exact absurd hk (by simp [Mv.ws, Mv.nums])
    | .pass a b, _, _, _ => simp [Mv.nums] at e
    | .swap a b c d, _, _, _ => simp [Mv.nums] at e
theorem e_bad_words {m : Mv} (hm : m.ok) {n : Nat} {p : List D} (hp : Pool n p) {start : Int} (h0 : 0 ≤ start) (h1 : start + 2 < n) : ∃ d l, c_law_bad_words [.lst (strsD m.ws), .lst p, .int start] = .ok d l ∧ BadR d := by
  refine En.defI ?_
  show En (b_law_bad_words [some (0, .lst (strsD m.ws)), some (0, .lst p), some (0, .int start), none, none, none, none]) _
  obtain ⟨v0, e0, v0a, v0b⟩ := hp.at_ (i := start) h0 (by omega)
  obtain ⟨v1, e1, v1a, v1b⟩ := hp.at_ (i := start + 1) (by omega) (by omega)
  obtain ⟨v2, e2, v2a, v2b⟩ := hp.at_ (i := start + 2) (by omega) (by omega)
  have wl := ws_length m
  have nl := nums_len m
  have sl : (strsD m.ws).length = m.nums.length + 1 := by rw [strs_len, wl]
  have nmw := noMut_strs m.ws
  have g1 : (0 : Int) < (m.nums.length : Int) + 1 + 1 := by omega
  have g2 : (0 : Int) < (m.nums.length : Int) + 1 := by omega
  unfold b_law_bad_words
  refine En.seq (by (simp [VL.vDef, VL.env0, VL.vSeq, VL.vSet, VL.put, VL.frz, VL.thaw, VL.vName, VL.nrm, VL.noMut, VL.noMutL, VL.v2, VL.v1, VL.vC, VL.gIC, VL.gI, VL.gAdd, VL.gMul, VL.cMul, VL.vCons, VL.vCall, VL.g1, VL.gInt, VL.gLen, VL.gAbs, VL.vRet, VL.vRetName, VL.vIfS, VL.tB_, VL.tV, VL.vLst, VL.vTup, VL.lstRv, VL.gridChild, VL.isFlat, VL.dsOf, VL.alOf, VL.mkL, VL.gCat, VL.gCatT, VL.gCatS, VL.gIx, VL.gIxA, VL.atD, VL.gEq, VL.gIsN, VL.gIsB, VL.gIsi, VL.isiD, VL.vAnd, VL.vOr, VL.vNot, VL.truD, VL.tNot_, VL.tAnd_, VL.tOr_, VL.vNeg, VL.vCallF, VL.frRv, VL.vFor, VL.loopV, VL.gN, VL.iRange1, VL.upTo, VL.rngOk, VL.vComp, VL.compV, VL.compRv, VL.wipeE, VL.iSeq, VL.itemsD, VL.gStr, VL.gStrC, VL.gIntA, VL.vSplit, VL.vJoin, VL.itemsOf, VL.gTuple, VL.gList, VL.vApp, VL.chg, VL.notIn, VL.gIxK, VL.gInK, VL.lookD, VL.vAug, e0] <;> first | exact rfl | exact ⟨rfl, rfl⟩ | exact ⟨rfl, rfl, rfl⟩)) ?_
  refine En.seq (e := [some (0, .lst (strsD m.ws)), some (0, .lst p), some (0, .int start), some (2, .int (v0 % 8)), some (2, .int (v1 % ((m.nums.length : Int) + 1 + 1))), none, none]) (by simp [VL.vDef, VL.env0, VL.vSeq, VL.vSet, VL.put, VL.frz, VL.thaw, VL.vName, VL.nrm, VL.noMut, VL.noMutL, VL.v2, VL.v1, VL.vC, VL.gIC, VL.gI, VL.gAdd, VL.gMul, VL.cMul, VL.vCons, VL.vCall, VL.g1, VL.gInt, VL.gLen, VL.gAbs, VL.vRet, VL.vRetName, VL.vIfS, VL.tB_, VL.tV, VL.vLst, VL.vTup, VL.lstRv, VL.gridChild, VL.isFlat, VL.dsOf, VL.alOf, VL.mkL, VL.gCat, VL.gCatT, VL.gCatS, VL.gIx, VL.gIxA, VL.atD, VL.gEq, VL.gIsN, VL.gIsB, VL.gIsi, VL.isiD, VL.vAnd, VL.vOr, VL.vNot, VL.truD, VL.tNot_, VL.tAnd_, VL.tOr_, VL.vNeg, VL.vCallF, VL.frRv, VL.vFor, VL.loopV, VL.gN, VL.iRange1, VL.upTo, VL.rngOk, VL.vComp, VL.compV, VL.compRv, VL.wipeE, VL.iSeq, VL.itemsD, VL.gStr, VL.gStrC, VL.gIntA, VL.vSplit, VL.vJoin, VL.itemsOf, VL.gTuple, VL.gList, VL.vApp, VL.chg, VL.notIn, VL.gIxK, VL.gInK, VL.lookD, VL.vAug, e1, sl, g1]) ?_
  have a0 : 0 ≤ v1 % ((m.nums.length : Int) + 1 + 1) := Int.emod_nonneg _ (by omega)
  have a1 : v1 % ((m.nums.length : Int) + 1 + 1) < (m.nums.length : Int) + 1 + 1 := Int.emod_lt_of_pos _ g1
  generalize v1 % ((m.nums.length : Int) + 1 + 1) = at_ at a0 a1
  have cT := cutD_take (strsD m.ws) a0
  have cD := cutD_drop (strsD m.ws) a0
  rw [strs_take] at cT
  rw [strs_drop] at cD
  have lA : (m.ws.take at_.toNat).length ≤ 5 := by rw [List.length_take]; omega
  have lB : (m.ws.drop at_.toNat).length ≤ 5 := by rw [List.length_drop]; omega
  have nA := noMut_strs (m.ws.take at_.toNat)
  have nB := noMut_strs (m.ws.drop at_.toNat)
  have kA := strs_len (m.ws.take at_.toNat)
  have kB := strs_len (m.ws.drop at_.toNat)
  obtain ⟨a, ha⟩ : ∃ a, (m.ws.take at_.toNat).length = a := ⟨_, rfl⟩
  obtain ⟨b, hb⟩ : ∃ b, (m.ws.drop at_.toNat).length = b := ⟨_, rfl⟩
  rw [ha] at kA lA
  rw [hb] at kB lB
  -- a word put in
  have ins : ∀ w : Str, wOk w → lookD w K_FORMS = none → BadR (.lst (strsD (m.ws.take at_.toNat) ++ .str w :: strsD (m.ws.drop at_.toNat))) := fun w hw hl => by
    refine ⟨m.ws.take at_.toNat ++ [w] ++ m.ws.drop at_.toNat, ?_, bad_ins hl _ (by omega), row_ins hm hw _ _, line_two (by simp only [List.length_append, List.length_cons, List.length_nil, List.length_take, List.length_drop]; omega)⟩
    simp [strsD]
  have q1 : a ≤ 16777215 := by omega
  have q2 : a + 1 ≤ 16777216 := by omega
  have q3 : a + 1 + b ≤ 16777216 := by omega
  refine En.retIf (decide (v0 % 8 = 0)) (by simp [VL.vDef, VL.env0, VL.vSeq, VL.vSet, VL.put, VL.frz, VL.thaw, VL.vName, VL.nrm, VL.noMut, VL.noMutL, VL.v2, VL.v1, VL.vC, VL.gIC, VL.gI, VL.gAdd, VL.gMul, VL.cMul, VL.vCons, VL.vCall, VL.g1, VL.gInt, VL.gLen, VL.gAbs, VL.vRet, VL.vRetName, VL.vIfS, VL.tB_, VL.tV, VL.vLst, VL.vTup, VL.lstRv, VL.gridChild, VL.isFlat, VL.dsOf, VL.alOf, VL.mkL, VL.gCat, VL.gCatT, VL.gCatS, VL.gIx, VL.gIxA, VL.atD, VL.gEq, VL.gIsN, VL.gIsB, VL.gIsi, VL.isiD, VL.vAnd, VL.vOr, VL.vNot, VL.truD, VL.tNot_, VL.tAnd_, VL.tOr_, VL.vNeg, VL.vCallF, VL.frRv, VL.vFor, VL.loopV, VL.gN, VL.iRange1, VL.upTo, VL.rngOk, VL.vComp, VL.compV, VL.compRv, VL.wipeE, VL.iSeq, VL.itemsD, VL.gStr, VL.gStrC, VL.gIntA, VL.vSplit, VL.vJoin, VL.itemsOf, VL.gTuple, VL.gList, VL.vApp, VL.chg, VL.notIn, VL.gIxK, VL.gInK, VL.lookD, VL.vAug, eqD_int]) (fun c => ?_) (fun c => ?_)
  · generalize hA : strsD (m.ws.take at_.toNat) = A at *
    generalize hB : strsD (m.ws.drop at_.toNat) = B at *
    exact En.seq_ret (by (simp [VL.vDef, VL.env0, VL.vSeq, VL.vSet, VL.put, VL.frz, VL.thaw, VL.vName, VL.nrm, VL.noMut, VL.noMutL, VL.v2, VL.v1, VL.vC, VL.gIC, VL.gI, VL.gAdd, VL.gMul, VL.cMul, VL.vCons, VL.vCall, VL.g1, VL.gInt, VL.gLen, VL.gAbs, VL.vRet, VL.vRetName, VL.vIfS, VL.tB_, VL.tV, VL.vLst, VL.vTup, VL.lstRv, VL.gridChild, VL.isFlat, VL.dsOf, VL.alOf, VL.mkL, VL.gCat, VL.gCatT, VL.gCatS, VL.gIx, VL.gIxA, VL.atD, VL.gEq, VL.gIsN, VL.gIsB, VL.gIsi, VL.isiD, VL.vAnd, VL.vOr, VL.vNot, VL.truD, VL.tNot_, VL.tAnd_, VL.tOr_, VL.vNeg, VL.vCallF, VL.frRv, VL.vFor, VL.loopV, VL.gN, VL.iRange1, VL.upTo, VL.rngOk, VL.vComp, VL.compV, VL.compRv, VL.wipeE, VL.iSeq, VL.itemsD, VL.gStr, VL.gStrC, VL.gIntA, VL.vSplit, VL.vJoin, VL.itemsOf, VL.gTuple, VL.gList, VL.vApp, VL.chg, VL.notIn, VL.gIxK, VL.gInK, VL.lookD, VL.vAug, vSlice, vPart, cT, cD, nA, nB, noMutL_app, kA, kB, q1, q2, q3] <;> first | exact rfl | exact ⟨rfl, rfl⟩ | exact ⟨rfl, rfl, rfl⟩)) ⟨_, _, rfl, ins "" ⟨by decide +kernel, by decide +kernel, by decide +kernel, by decide +kernel⟩ (by kernel_rfl)⟩
  refine En.skip ?_
  refine En.retIf (decide (v0 % 8 = 1)) (by simp [VL.vDef, VL.env0, VL.vSeq, VL.vSet, VL.put, VL.frz, VL.thaw, VL.vName, VL.nrm, VL.noMut, VL.noMutL, VL.v2, VL.v1, VL.vC, VL.gIC, VL.gI, VL.gAdd, VL.gMul, VL.cMul, VL.vCons, VL.vCall, VL.g1, VL.gInt, VL.gLen, VL.gAbs, VL.vRet, VL.vRetName, VL.vIfS, VL.tB_, VL.tV, VL.vLst, VL.vTup, VL.lstRv, VL.gridChild, VL.isFlat, VL.dsOf, VL.alOf, VL.mkL, VL.gCat, VL.gCatT, VL.gCatS, VL.gIx, VL.gIxA, VL.atD, VL.gEq, VL.gIsN, VL.gIsB, VL.gIsi, VL.isiD, VL.vAnd, VL.vOr, VL.vNot, VL.truD, VL.tNot_, VL.tAnd_, VL.tOr_, VL.vNeg, VL.vCallF, VL.frRv, VL.vFor, VL.loopV, VL.gN, VL.iRange1, VL.upTo, VL.rngOk, VL.vComp, VL.compV, VL.compRv, VL.wipeE, VL.iSeq, VL.itemsD, VL.gStr, VL.gStrC, VL.gIntA, VL.vSplit, VL.vJoin, VL.itemsOf, VL.gTuple, VL.gList, VL.vApp, VL.chg, VL.notIn, VL.gIxK, VL.gInK, VL.lookD, VL.vAug, eqD_int]) (fun c => ?_) (fun c => ?_)
  · have s2 : sm (v2 % 100) := sm_of (.inr rfl)
    obtain ⟨f1, f2, f3, f4, f5, f6, f7, f8⟩ := nm_facts s2
    have lg := sm_log s2
    generalize hA : strsD (m.ws.take at_.toNat) = A at *
    generalize hB : strsD (m.ws.drop at_.toNat) = B at *
    exact En.seq_ret (by (simp [VL.vDef, VL.env0, VL.vSeq, VL.vSet, VL.put, VL.frz, VL.thaw, VL.vName, VL.nrm, VL.noMut, VL.noMutL, VL.v2, VL.v1, VL.vC, VL.gIC, VL.gI, VL.gAdd, VL.gMul, VL.cMul, VL.vCons, VL.vCall, VL.g1, VL.gInt, VL.gLen, VL.gAbs, VL.vRet, VL.vRetName, VL.vIfS, VL.tB_, VL.tV, VL.vLst, VL.vTup, VL.lstRv, VL.gridChild, VL.isFlat, VL.dsOf, VL.alOf, VL.mkL, VL.gCat, VL.gCatT, VL.gCatS, VL.gIx, VL.gIxA, VL.atD, VL.gEq, VL.gIsN, VL.gIsB, VL.gIsi, VL.isiD, VL.vAnd, VL.vOr, VL.vNot, VL.truD, VL.tNot_, VL.tAnd_, VL.tOr_, VL.vNeg, VL.vCallF, VL.frRv, VL.vFor, VL.loopV, VL.gN, VL.iRange1, VL.upTo, VL.rngOk, VL.vComp, VL.compV, VL.compRv, VL.wipeE, VL.iSeq, VL.itemsD, VL.gStr, VL.gStrC, VL.gIntA, VL.vSplit, VL.vJoin, VL.itemsOf, VL.gTuple, VL.gList, VL.vApp, VL.chg, VL.notIn, VL.gIxK, VL.gInK, VL.lookD, VL.vAug, vSlice, vPart, cT, cD, nA, nB, noMutL_app, kA, kB, q1, q2, q3, e2, lg] <;> first | exact rfl | exact ⟨rfl, rfl⟩ | exact ⟨rfl, rfl, rfl⟩)) ⟨_, _, rfl, ins (nm (v2 % 100)) ⟨by omega, f4, f5, f6⟩ f8⟩
  refine En.skip ?_
  refine En.retIf (decide (v0 % 8 = 2)) (by simp [VL.vDef, VL.env0, VL.vSeq, VL.vSet, VL.put, VL.frz, VL.thaw, VL.vName, VL.nrm, VL.noMut, VL.noMutL, VL.v2, VL.v1, VL.vC, VL.gIC, VL.gI, VL.gAdd, VL.gMul, VL.cMul, VL.vCons, VL.vCall, VL.g1, VL.gInt, VL.gLen, VL.gAbs, VL.vRet, VL.vRetName, VL.vIfS, VL.tB_, VL.tV, VL.vLst, VL.vTup, VL.lstRv, VL.gridChild, VL.isFlat, VL.dsOf, VL.alOf, VL.mkL, VL.gCat, VL.gCatT, VL.gCatS, VL.gIx, VL.gIxA, VL.atD, VL.gEq, VL.gIsN, VL.gIsB, VL.gIsi, VL.isiD, VL.vAnd, VL.vOr, VL.vNot, VL.truD, VL.tNot_, VL.tAnd_, VL.tOr_, VL.vNeg, VL.vCallF, VL.frRv, VL.vFor, VL.loopV, VL.gN, VL.iRange1, VL.upTo, VL.rngOk, VL.vComp, VL.compV, VL.compRv, VL.wipeE, VL.iSeq, VL.itemsD, VL.gStr, VL.gStrC, VL.gIntA, VL.vSplit, VL.vJoin, VL.itemsOf, VL.gTuple, VL.gList, VL.vApp, VL.chg, VL.notIn, VL.gIxK, VL.gInK, VL.lookD, VL.vAug, eqD_int]) (fun c => ?_) (fun c => ?_)
  · refine En.assoc ?_
    refine En.seq (e := [some (0, .lst (strsD m.ws)), some (0, .lst p), some (0, .int start), some (2, .int (v0 % 8)), some (2, .int (at_ % ((m.nums.length : Int) + 1))), none, none]) (by simp [VL.vDef, VL.env0, VL.vSeq, VL.vSet, VL.put, VL.frz, VL.thaw, VL.vName, VL.nrm, VL.noMut, VL.noMutL, VL.v2, VL.v1, VL.vC, VL.gIC, VL.gI, VL.gAdd, VL.gMul, VL.cMul, VL.vCons, VL.vCall, VL.g1, VL.gInt, VL.gLen, VL.gAbs, VL.vRet, VL.vRetName, VL.vIfS, VL.tB_, VL.tV, VL.vLst, VL.vTup, VL.lstRv, VL.gridChild, VL.isFlat, VL.dsOf, VL.alOf, VL.mkL, VL.gCat, VL.gCatT, VL.gCatS, VL.gIx, VL.gIxA, VL.atD, VL.gEq, VL.gIsN, VL.gIsB, VL.gIsi, VL.isiD, VL.vAnd, VL.vOr, VL.vNot, VL.truD, VL.tNot_, VL.tAnd_, VL.tOr_, VL.vNeg, VL.vCallF, VL.frRv, VL.vFor, VL.loopV, VL.gN, VL.iRange1, VL.upTo, VL.rngOk, VL.vComp, VL.compV, VL.compRv, VL.wipeE, VL.iSeq, VL.itemsD, VL.gStr, VL.gStrC, VL.gIntA, VL.vSplit, VL.vJoin, VL.itemsOf, VL.gTuple, VL.gList, VL.vApp, VL.chg, VL.notIn, VL.gIxK, VL.gInK, VL.lookD, VL.vAug, sl, g2]) ?_
    have b0 : 0 ≤ at_ % ((m.nums.length : Int) + 1) := Int.emod_nonneg _ (by omega)
    have b1 : at_ % ((m.nums.length : Int) + 1) < (m.nums.length : Int) + 1 := Int.emod_lt_of_pos _ g2
    generalize at_ % ((m.nums.length : Int) + 1) = z at b0 b1
    have cT := cutD_take (strsD m.ws) b0
    have cD := cutD_drop (strsD m.ws) (i := z + 1) (by omega)
    rw [strs_take] at cT
    rw [strs_drop] at cD
    have ez : (z + 1).toNat = z.toNat + 1 := by omega
    rw [ez] at cD
    have nA := noMut_strs (m.ws.take z.toNat)
    have nB := noMut_strs (m.ws.drop (z.toNat + 1))
    have kA := strs_len (m.ws.take z.toNat)
    have kB := strs_len (m.ws.drop (z.toNat + 1))
    obtain ⟨a2, ha2⟩ : ∃ a, (m.ws.take z.toNat).length = a := ⟨_, rfl⟩
    obtain ⟨b2, hb2⟩ : ∃ b, (m.ws.drop (z.toNat + 1)).length = b := ⟨_, rfl⟩
    have lA2 : a2 ≤ 5 := by rw [← ha2, List.length_take]; omega
    have lB2 : b2 ≤ 5 := by rw [← hb2, List.length_drop]; omega
    rw [ha2] at kA
    rw [hb2] at kB
    have qq : a2 + b2 ≤ 16777216 := by omega
    have fin : BadR (.lst (strsD (m.ws.take z.toNat) ++ strsD (m.ws.drop (z.toNat + 1)))) := ⟨_, by rw [strs_app], bad_del hm _ (by omega), row_del hm _ _, del_pos hm _ (by omega)⟩
    generalize hA : strsD (m.ws.take z.toNat) = A at *
    generalize hB : strsD (m.ws.drop (z.toNat + 1)) = B at *
    exact En.seq_ret (by (simp [VL.vDef, VL.env0, VL.vSeq, VL.vSet, VL.put, VL.frz, VL.thaw, VL.vName, VL.nrm, VL.noMut, VL.noMutL, VL.v2, VL.v1, VL.vC, VL.gIC, VL.gI, VL.gAdd, VL.gMul, VL.cMul, VL.vCons, VL.vCall, VL.g1, VL.gInt, VL.gLen, VL.gAbs, VL.vRet, VL.vRetName, VL.vIfS, VL.tB_, VL.tV, VL.vLst, VL.vTup, VL.lstRv, VL.gridChild, VL.isFlat, VL.dsOf, VL.alOf, VL.mkL, VL.gCat, VL.gCatT, VL.gCatS, VL.gIx, VL.gIxA, VL.atD, VL.gEq, VL.gIsN, VL.gIsB, VL.gIsi, VL.isiD, VL.vAnd, VL.vOr, VL.vNot, VL.truD, VL.tNot_, VL.tAnd_, VL.tOr_, VL.vNeg, VL.vCallF, VL.frRv, VL.vFor, VL.loopV, VL.gN, VL.iRange1, VL.upTo, VL.rngOk, VL.vComp, VL.compV, VL.compRv, VL.wipeE, VL.iSeq, VL.itemsD, VL.gStr, VL.gStrC, VL.gIntA, VL.vSplit, VL.vJoin, VL.itemsOf, VL.gTuple, VL.gList, VL.vApp, VL.chg, VL.notIn, VL.gIxK, VL.gInK, VL.lookD, VL.vAug, vSlice, vPart, cT, cD, nA, nB, noMutL_app, kA, kB, qq] <;> first | exact rfl | exact ⟨rfl, rfl⟩ | exact ⟨rfl, rfl, rfl⟩)) ⟨_, _, rfl, fin⟩
  refine En.skip ?_
  refine En.retIf (decide (v0 % 8 = 3)) (by simp [VL.vDef, VL.env0, VL.vSeq, VL.vSet, VL.put, VL.frz, VL.thaw, VL.vName, VL.nrm, VL.noMut, VL.noMutL, VL.v2, VL.v1, VL.vC, VL.gIC, VL.gI, VL.gAdd, VL.gMul, VL.cMul, VL.vCons, VL.vCall, VL.g1, VL.gInt, VL.gLen, VL.gAbs, VL.vRet, VL.vRetName, VL.vIfS, VL.tB_, VL.tV, VL.vLst, VL.vTup, VL.lstRv, VL.gridChild, VL.isFlat, VL.dsOf, VL.alOf, VL.mkL, VL.gCat, VL.gCatT, VL.gCatS, VL.gIx, VL.gIxA, VL.atD, VL.gEq, VL.gIsN, VL.gIsB, VL.gIsi, VL.isiD, VL.vAnd, VL.vOr, VL.vNot, VL.truD, VL.tNot_, VL.tAnd_, VL.tOr_, VL.vNeg, VL.vCallF, VL.frRv, VL.vFor, VL.loopV, VL.gN, VL.iRange1, VL.upTo, VL.rngOk, VL.vComp, VL.compV, VL.compRv, VL.wipeE, VL.iSeq, VL.itemsD, VL.gStr, VL.gStrC, VL.gIntA, VL.vSplit, VL.vJoin, VL.itemsOf, VL.gTuple, VL.gList, VL.vApp, VL.chg, VL.notIn, VL.gIxK, VL.gInK, VL.lookD, VL.vAug, eqD_int]) (fun c => ?_) (fun c => ?_)
  · refine En.assoc ?_
    refine En.seq (by (simp [VL.vDef, VL.env0, VL.vSeq, VL.vSet, VL.put, VL.frz, VL.thaw, VL.vName, VL.nrm, VL.noMut, VL.noMutL, VL.v2, VL.v1, VL.vC, VL.gIC, VL.gI, VL.gAdd, VL.gMul, VL.cMul, VL.vCons, VL.vCall, VL.g1, VL.gInt, VL.gLen, VL.gAbs, VL.vRet, VL.vRetName, VL.vIfS, VL.tB_, VL.tV, VL.vLst, VL.vTup, VL.lstRv, VL.gridChild, VL.isFlat, VL.dsOf, VL.alOf, VL.mkL, VL.gCat, VL.gCatT, VL.gCatS, VL.gIx, VL.gIxA, VL.atD, VL.gEq, VL.gIsN, VL.gIsB, VL.gIsi, VL.isiD, VL.vAnd, VL.vOr, VL.vNot, VL.truD, VL.tNot_, VL.tAnd_, VL.tOr_, VL.vNeg, VL.vCallF, VL.frRv, VL.vFor, VL.loopV, VL.gN, VL.iRange1, VL.upTo, VL.rngOk, VL.vComp, VL.compV, VL.compRv, VL.wipeE, VL.iSeq, VL.itemsD, VL.gStr, VL.gStrC, VL.gIntA, VL.vSplit, VL.vJoin, VL.itemsOf, VL.gTuple, VL.gList, VL.vApp, VL.chg, VL.notIn, VL.gIxK, VL.gInK, VL.lookD, VL.vAug] <;> first | exact rfl | exact ⟨rfl, rfl⟩ | exact ⟨rfl, rfl, rfl⟩)) ?_
    have e0 : L2.atI (strsD m.ws) 0 = some (.str m.name) := atI_zero _ _
    have okn : PyData.strOk m.name = true := (ws_len hm _ List.mem_cons_self).2.1
    refine En.assoc (En.seq (e := [some (0, .lst (strsD m.ws)), some (0, .lst p), some (0, .int start), some (2, .int (v0 % 8)), some (2, .int at_), some (2, .lst (strsD (others m))), none]) ?_ ?_)
    · have eo : strsD (others m) = [.str "Enter", .str "PASS", .str "swaps", .str "pas", .str "move", .str "down", .str "settle", .str "", .str "enter_", .str "0"] ++ strsD ((["enter", "pass", "swap"] : List Str).filter (fun w => decide (w ≠ m.name))) := rfl
      have k_enter_enter : eqD (.str "enter") (.str "enter") = some true := by kernel_rfl
      have k_enter_pass : eqD (.str "enter") (.str "pass") = some false := by kernel_rfl
      have n_enter_pass : ¬ Str.ofString "enter" = Str.ofString "pass" := by decide +kernel
      have k_enter_swap : eqD (.str "enter") (.str "swap") = some false := by kernel_rfl
      have n_enter_swap : ¬ Str.ofString "enter" = Str.ofString "swap" := by decide +kernel
      have k_pass_enter : eqD (.str "pass") (.str "enter") = some false := by kernel_rfl
      have n_pass_enter : ¬ Str.ofString "pass" = Str.ofString "enter" := by decide +kernel
      have k_pass_pass : eqD (.str "pass") (.str "pass") = some true := by kernel_rfl
      have k_pass_swap : eqD (.str "pass") (.str "swap") = some false := by kernel_rfl
      have n_pass_swap : ¬ Str.ofString "pass" = Str.ofString "swap" := by decide +kernel
      have k_swap_enter : eqD (.str "swap") (.str "enter") = some false := by kernel_rfl
      have n_swap_enter : ¬ Str.ofString "swap" = Str.ofString "enter" := by decide +kernel
      have k_swap_pass : eqD (.str "swap") (.str "pass") = some false := by kernel_rfl
      have n_swap_pass : ¬ Str.ofString "swap" = Str.ofString "pass" := by decide +kernel
      have k_swap_swap : eqD (.str "swap") (.str "swap") = some true := by kernel_rfl
      rw [eo]
      generalize strsD m.ws = Wd at e0 nmw ⊢
      cases m <;> rw [Mv.name] at e0 ⊢ <;> simp [VL.vDef, VL.env0, VL.vSeq, VL.vSet, VL.put, VL.frz, VL.thaw, VL.vName, VL.nrm, VL.noMut, VL.noMutL, VL.v2, VL.v1, VL.vC, VL.gIC, VL.gI, VL.gAdd, VL.gMul, VL.cMul, VL.vCons, VL.vCall, VL.g1, VL.gInt, VL.gLen, VL.gAbs, VL.vRet, VL.vRetName, VL.vIfS, VL.tB_, VL.tV, VL.vLst, VL.vTup, VL.lstRv, VL.gridChild, VL.isFlat, VL.dsOf, VL.alOf, VL.mkL, VL.gCat, VL.gCatT, VL.gCatS, VL.gIx, VL.gIxA, VL.atD, VL.gEq, VL.gIsN, VL.gIsB, VL.gIsi, VL.isiD, VL.vAnd, VL.vOr, VL.vNot, VL.truD, VL.tNot_, VL.tAnd_, VL.tOr_, VL.vNeg, VL.vCallF, VL.frRv, VL.vFor, VL.loopV, VL.gN, VL.iRange1, VL.upTo, VL.rngOk, VL.vComp, VL.compV, VL.compRv, VL.wipeE, VL.iSeq, VL.itemsD, VL.gStr, VL.gStrC, VL.gIntA, VL.vSplit, VL.vJoin, VL.itemsOf, VL.gTuple, VL.gList, VL.vApp, VL.chg, VL.notIn, VL.gIxK, VL.gInK, VL.lookD, VL.vAug, e0, nmw, strsD, k_enter_enter, k_enter_pass, n_enter_pass, k_enter_swap, n_enter_swap, k_pass_enter, n_pass_enter, k_pass_pass, k_pass_swap, n_pass_swap, k_swap_enter, n_swap_enter, k_swap_pass, n_swap_pass, k_swap_swap]
    · have lo : 0 < (others m).length ∧ (others m).length ≤ 13 := by
        unfold others
        rw [List.length_append]
        have := List.length_filter_le (fun w => decide (w ≠ m.name)) (["enter", "pass", "swap"] : List Str)
        simp only [List.length_cons, List.length_nil] at this ⊢
        omega
      have lo1 : (0 : Int) < (others m).length := by omega
      have c0 : 0 ≤ v2 % ((others m).length : Int) := Int.emod_nonneg _ (by omega)
      have c1 : v2 % ((others m).length : Int) < (others m).length := Int.emod_lt_of_pos _ lo1
      have hi : (v2 % ((others m).length : Int)).toNat < (others m).length := by omega
      have eo := atI_strs (ws := others m) hi
      rw [Int.toNat_of_nonneg c0] at eo
      obtain ⟨bf, wf⟩ := bad_first (List.getElem_mem hi)
      have fin : BadR (.lst (.str (others m)[(v2 % ((others m).length : Int)).toNat] :: strsD (m.ws.drop 1))) := ⟨_, rfl, bf, row_first hm wf _, line_two (by rw [List.length_cons, List.length_drop, wl]; omega)⟩
      have cD := cutD_drop (strsD m.ws) (i := 1) (by decide)
      rw [strs_drop] at cD
      have e1' : (1 : Int).toNat = 1 := rfl
      rw [e1'] at cD
      have nB := noMut_strs (m.ws.drop 1)
      have kB : (strsD (m.ws.drop 1)).length = m.nums.length := by rw [strs_len, List.length_drop, wl]; omega
      have lN := strs_len (others m)
      have nO := noMut_strs (others m)
      have qq : 1 + m.nums.length ≤ 16777216 := by omega
      have qq2 : m.nums.length ≤ 16777215 := by omega
      generalize strsD (m.ws.drop 1) = B at *
      generalize (others m)[(v2 % ((others m).length : Int)).toNat] = ow at *
      generalize strsD (others m) = O at *
      generalize strsD m.ws = Wd at *
      generalize (others m).length = on at *
      generalize m.nums.length = mn at *
      generalize hz : (v2 % (on : Int)) = zz at *
      exact En.seq_ret (d := .lst (.str ow :: B)) (l := 2) (by (simp [VL.vDef, VL.env0, VL.vSeq, VL.vSet, VL.put, VL.frz, VL.thaw, VL.vName, VL.nrm, VL.noMut, VL.noMutL, VL.v2, VL.v1, VL.vC, VL.gIC, VL.gI, VL.gAdd, VL.gMul, VL.cMul, VL.vCons, VL.vCall, VL.g1, VL.gInt, VL.gLen, VL.gAbs, VL.vRet, VL.vRetName, VL.vIfS, VL.tB_, VL.tV, VL.vLst, VL.vTup, VL.lstRv, VL.gridChild, VL.isFlat, VL.dsOf, VL.alOf, VL.mkL, VL.gCat, VL.gCatT, VL.gCatS, VL.gIx, VL.gIxA, VL.atD, VL.gEq, VL.gIsN, VL.gIsB, VL.gIsi, VL.isiD, VL.vAnd, VL.vOr, VL.vNot, VL.truD, VL.tNot_, VL.tAnd_, VL.tOr_, VL.vNeg, VL.vCallF, VL.frRv, VL.vFor, VL.loopV, VL.gN, VL.iRange1, VL.upTo, VL.rngOk, VL.vComp, VL.compV, VL.compRv, VL.wipeE, VL.iSeq, VL.itemsD, VL.gStr, VL.gStrC, VL.gIntA, VL.vSplit, VL.vJoin, VL.itemsOf, VL.gTuple, VL.gList, VL.vApp, VL.chg, VL.notIn, VL.gIxK, VL.gInK, VL.lookD, VL.vAug, e2, lN, lo.1, lo1, hz, eo, nO, nmw, vSlice, vPart, cD, nB, kB, qq, qq2] <;> first | exact rfl | exact ⟨rfl, rfl⟩ | exact ⟨rfl, rfl, rfl⟩)) ⟨_, _, rfl, fin⟩
  refine En.skip ?_
  have g3 : (0 : Int) < (m.nums.length : Int) := by omega
  have g3n : 0 < m.nums.length := nl.1
  refine En.seq (e := [some (0, .lst (strsD m.ws)), some (0, .lst p), some (0, .int start), some (2, .int (v0 % 8)), some (2, .int (1 + at_ % (m.nums.length : Int))), none, none]) (by simp [VL.vDef, VL.env0, VL.vSeq, VL.vSet, VL.put, VL.frz, VL.thaw, VL.vName, VL.nrm, VL.noMut, VL.noMutL, VL.v2, VL.v1, VL.vC, VL.gIC, VL.gI, VL.gAdd, VL.gMul, VL.cMul, VL.vCons, VL.vCall, VL.g1, VL.gInt, VL.gLen, VL.gAbs, VL.vRet, VL.vRetName, VL.vIfS, VL.tB_, VL.tV, VL.vLst, VL.vTup, VL.lstRv, VL.gridChild, VL.isFlat, VL.dsOf, VL.alOf, VL.mkL, VL.gCat, VL.gCatT, VL.gCatS, VL.gIx, VL.gIxA, VL.atD, VL.gEq, VL.gIsN, VL.gIsB, VL.gIsi, VL.isiD, VL.vAnd, VL.vOr, VL.vNot, VL.truD, VL.tNot_, VL.tAnd_, VL.tOr_, VL.vNeg, VL.vCallF, VL.frRv, VL.vFor, VL.loopV, VL.gN, VL.iRange1, VL.upTo, VL.rngOk, VL.vComp, VL.compV, VL.compRv, VL.wipeE, VL.iSeq, VL.itemsD, VL.gStr, VL.gStrC, VL.gIntA, VL.vSplit, VL.vJoin, VL.itemsOf, VL.gTuple, VL.gList, VL.vApp, VL.chg, VL.notIn, VL.gIxK, VL.gInK, VL.lookD, VL.vAug, sl, g3, g3n]) ?_
  have b0 : 0 ≤ at_ % (m.nums.length : Int) := Int.emod_nonneg _ (by omega)
  have b1 : at_ % (m.nums.length : Int) < m.nums.length := Int.emod_lt_of_pos _ g3
  generalize at_ % (m.nums.length : Int) = z at b0 b1
  obtain ⟨k, rfl⟩ := Int.eq_ofNat_of_zero_le b0
  have hk : k < m.nums.length := by omega
  have ha : sm m.nums[k] := Mv.sms hm _ (List.getElem_mem hk)
  have ew : L2.atI (strsD m.ws) (1 + (k : Int)) = some (.str (nm m.nums[k])) := by
    have e : 1 + (k : Int) = ((k + 1 : Nat) : Int) := by omega
    rw [e, atI_strs (by rw [wl]; omega)]
    simp [Mv.ws]
  obtain ⟨f1, f2, f3, f4, f5, f6, ⟨c, f7, f7'⟩, f8⟩ := nm_facts ha
  refine En.seq (by (simp [VL.vDef, VL.env0, VL.vSeq, VL.vSet, VL.put, VL.frz, VL.thaw, VL.vName, VL.nrm, VL.noMut, VL.noMutL, VL.v2, VL.v1, VL.vC, VL.gIC, VL.gI, VL.gAdd, VL.gMul, VL.cMul, VL.vCons, VL.vCall, VL.g1, VL.gInt, VL.gLen, VL.gAbs, VL.vRet, VL.vRetName, VL.vIfS, VL.tB_, VL.tV, VL.vLst, VL.vTup, VL.lstRv, VL.gridChild, VL.isFlat, VL.dsOf, VL.alOf, VL.mkL, VL.gCat, VL.gCatT, VL.gCatS, VL.gIx, VL.gIxA, VL.atD, VL.gEq, VL.gIsN, VL.gIsB, VL.gIsi, VL.isiD, VL.vAnd, VL.vOr, VL.vNot, VL.truD, VL.tNot_, VL.tAnd_, VL.tOr_, VL.vNeg, VL.vCallF, VL.frRv, VL.vFor, VL.loopV, VL.gN, VL.iRange1, VL.upTo, VL.rngOk, VL.vComp, VL.compV, VL.compRv, VL.wipeE, VL.iSeq, VL.itemsD, VL.gStr, VL.gStrC, VL.gIntA, VL.vSplit, VL.vJoin, VL.itemsOf, VL.gTuple, VL.gList, VL.vApp, VL.chg, VL.notIn, VL.gIxK, VL.gInK, VL.lookD, VL.vAug, ew, nmw] <;> first | exact rfl | exact ⟨rfl, rfl⟩ | exact ⟨rfl, rfl, rfl⟩)) ?_
  have len0 : (Str.ofString "0").length = 1 := by decide +kernel
  have lenm : (Str.ofString "-").length = 1 := by decide +kernel
  have lenp : (Str.ofString "+").length = 1 := by decide +kernel
  have len00 : (Str.ofString "00").length = 2 := by decide +kernel
  have lend : (Str.ofString ".").length = 1 := by decide +kernel
  have len_0 : (Str.ofString "_0").length = 2 := by decide +kernel
  have l1 : (nm (m.nums[k] % 10)).length ≤ 2 := (nm_facts (a := m.nums[k] % 10) ⟨Int.emod_nonneg _ (by decide), by have := Int.emod_lt_of_pos m.nums[k] (b := 10) (by decide); omega⟩).2.2.1
  have l2 : (nm m.nums[k]).length ≤ 2 := f3
  obtain ⟨x1, hx1⟩ : ∃ x, (nm m.nums[k]).length = x := ⟨_, rfl⟩
  obtain ⟨x2, hx2⟩ : ∃ x, (nm (m.nums[k] % 10)).length = x := ⟨_, rfl⟩
  rw [hx1] at l2
  rw [hx2] at l1
  have t0 : x1 ≤ 16777216 := by omega
  have t1 : 1 + x1 ≤ 16777216 := by omega
  have t2 : x1 + 1 ≤ 16777216 := by omega
  have t3 : x1 + 2 ≤ 16777216 := by omega
  have t4 : 1 + x2 ≤ 16777216 := by omega
  have t5 : x1 ≤ 16777215 := by omega
  have t6 : x1 ≤ 16777214 := by omega
  have t7 : x2 ≤ 16777215 := by omega
  have t8 : x1 < 16777216 := by omega
  have t9 : x2 < 16777216 := by omega
  refine En.seq (by (simp [VL.vDef, VL.env0, VL.vSeq, VL.vSet, VL.put, VL.frz, VL.thaw, VL.vName, VL.nrm, VL.noMut, VL.noMutL, VL.v2, VL.v1, VL.vC, VL.gIC, VL.gI, VL.gAdd, VL.gMul, VL.cMul, VL.vCons, VL.vCall, VL.g1, VL.gInt, VL.gLen, VL.gAbs, VL.vRet, VL.vRetName, VL.vIfS, VL.tB_, VL.tV, VL.vLst, VL.vTup, VL.lstRv, VL.gridChild, VL.isFlat, VL.dsOf, VL.alOf, VL.mkL, VL.gCat, VL.gCatT, VL.gCatS, VL.gIx, VL.gIxA, VL.atD, VL.gEq, VL.gIsN, VL.gIsB, VL.gIsi, VL.isiD, VL.vAnd, VL.vOr, VL.vNot, VL.truD, VL.tNot_, VL.tAnd_, VL.tOr_, VL.vNeg, VL.vCallF, VL.frRv, VL.vFor, VL.loopV, VL.gN, VL.iRange1, VL.upTo, VL.rngOk, VL.vComp, VL.compV, VL.compRv, VL.wipeE, VL.iSeq, VL.itemsD, VL.gStr, VL.gStrC, VL.gIntA, VL.vSplit, VL.vJoin, VL.itemsOf, VL.gTuple, VL.gList, VL.vApp, VL.chg, VL.notIn, VL.gIxK, VL.gInK, VL.lookD, VL.vAug, hx1, hx2, f7, f7', len0, lenm, lenp, len00, lend, t0, t1, t2, t3, t4, t5, t6, t7] <;> first | exact rfl | exact ⟨rfl, rfl⟩ | exact ⟨rfl, rfl, rfl⟩)) ?_
  refine En.seq (by (simp [VL.vDef, VL.env0, VL.vSeq, VL.vSet, VL.put, VL.frz, VL.thaw, VL.vName, VL.nrm, VL.noMut, VL.noMutL, VL.v2, VL.v1, VL.vC, VL.gIC, VL.gI, VL.gAdd, VL.gMul, VL.cMul, VL.vCons, VL.vCall, VL.g1, VL.gInt, VL.gLen, VL.gAbs, VL.vRet, VL.vRetName, VL.vIfS, VL.tB_, VL.tV, VL.vLst, VL.vTup, VL.lstRv, VL.gridChild, VL.isFlat, VL.dsOf, VL.alOf, VL.mkL, VL.gCat, VL.gCatT, VL.gCatS, VL.gIx, VL.gIxA, VL.atD, VL.gEq, VL.gIsN, VL.gIsB, VL.gIsi, VL.isiD, VL.vAnd, VL.vOr, VL.vNot, VL.truD, VL.tNot_, VL.tAnd_, VL.tOr_, VL.vNeg, VL.vCallF, VL.frRv, VL.vFor, VL.loopV, VL.gN, VL.iRange1, VL.upTo, VL.rngOk, VL.vComp, VL.compV, VL.compRv, VL.wipeE, VL.iSeq, VL.itemsD, VL.gStr, VL.gStrC, VL.gIntA, VL.vSplit, VL.vJoin, VL.itemsOf, VL.gTuple, VL.gList, VL.vApp, VL.chg, VL.notIn, VL.gIxK, VL.gInK, VL.lookD, VL.vAug, hx1, len_0, t3, t6] <;> first | exact rfl | exact ⟨rfl, rfl⟩ | exact ⟨rfl, rfl, rfl⟩)) ?_
  have bw : ∃ w, L2.atI [D.str ("0" ++ nm (m.nums[k] % 10)), D.str ("0" ++ nm (m.nums[k] % 10)), D.str ("0" ++ nm (m.nums[k] % 10)), D.str ("-" ++ nm m.nums[k]), D.str ("+" ++ nm m.nums[k]), D.str (nm m.nums[k] ++ "00"), D.str (nm m.nums[k] ++ "."), D.str (nm m.nums[k] ++ "_0"), D.str "", D.str "x", D.str "1e1", D.str "0x1"] (v2 % 12) = some (.str w) ∧ w ∈ badWords m.nums[k] := by
    obtain ⟨d, e, hd⟩ := atI_ok (p := [D.str ("0" ++ nm (m.nums[k] % 10)), D.str ("0" ++ nm (m.nums[k] % 10)), D.str ("0" ++ nm (m.nums[k] % 10)), D.str ("-" ++ nm m.nums[k]), D.str ("+" ++ nm m.nums[k]), D.str (nm m.nums[k] ++ "00"), D.str (nm m.nums[k] ++ "."), D.str (nm m.nums[k] ++ "_0"), D.str "", D.str "x", D.str "1e1", D.str "0x1"]) (i := v2 % 12) (Int.emod_nonneg _ (by decide)) (by have := Int.emod_lt_of_pos v2 (b := 12) (by decide); simpa using this)
    have : ∃ w, d = .str w ∧ w ∈ badWords m.nums[k] := by
      simp only [List.mem_cons, List.not_mem_nil, or_false] at hd
      unfold badWords
      rcases hd with h | h | h | h | h | h | h | h | h | h | h | h <;> exact ⟨_, h, by simp⟩
    obtain ⟨w, rfl, hw⟩ := this
    exact ⟨w, e, hw⟩
  obtain ⟨w, ebw, hw⟩ := bw
  have fin : BadR (.lst (strsD (m.ws.take (k + 1)) ++ .str w :: strsD (m.ws.drop (k + 2)))) := ⟨m.ws.take (k + 1) ++ [w] ++ m.ws.drop (k + 2), by simp [strsD], bad_num hm hk hw, row_num hm hk hw _, line_two (by simp only [List.length_append, List.length_cons, List.length_nil, List.length_take, wl]; omega)⟩
  have cT := cutD_take (strsD m.ws) (i := 1 + (k : Int)) (by omega)
  have cD := cutD_drop (strsD m.ws) (i := 1 + (k : Int) + 1) (by omega)
  have ek : (1 + (k : Int)).toNat = k + 1 := by omega
  have ek2 : (1 + (k : Int) + 1).toNat = k + 2 := by omega
  rw [strs_take, ek] at cT
  rw [strs_drop, ek2] at cD
  have nA := noMut_strs (m.ws.take (k + 1))
  have nB := noMut_strs (m.ws.drop (k + 2))
  have kA := strs_len (m.ws.take (k + 1))
  have kB := strs_len (m.ws.drop (k + 2))
  obtain ⟨a2, ha2⟩ : ∃ a, (m.ws.take (k + 1)).length = a := ⟨_, rfl⟩
  obtain ⟨b2, hb2⟩ : ∃ b, (m.ws.drop (k + 2)).length = b := ⟨_, rfl⟩
  have lA2 : a2 ≤ 5 := by rw [← ha2, List.length_take]; omega
  have lB2 : b2 ≤ 5 := by rw [← hb2, List.length_drop]; omega
  rw [ha2] at kA
  rw [hb2] at kB
  have q1 : a2 ≤ 16777215 := by omega
  have q2 : a2 + 1 ≤ 16777216 := by omega
  have q3 : a2 + 1 + b2 ≤ 16777216 := by omega
  generalize strsD (m.ws.take (k + 1)) = A at *
  generalize strsD (m.ws.drop (k + 2)) = B at *
  exact En.is (by (simp [VL.vDef, VL.env0, VL.vSeq, VL.vSet, VL.put, VL.frz, VL.thaw, VL.vName, VL.nrm, VL.noMut, VL.noMutL, VL.v2, VL.v1, VL.vC, VL.gIC, VL.gI, VL.gAdd, VL.gMul, VL.cMul, VL.vCons, VL.vCall, VL.g1, VL.gInt, VL.gLen, VL.gAbs, VL.vRet, VL.vRetName, VL.vIfS, VL.tB_, VL.tV, VL.vLst, VL.vTup, VL.lstRv, VL.gridChild, VL.isFlat, VL.dsOf, VL.alOf, VL.mkL, VL.gCat, VL.gCatT, VL.gCatS, VL.gIx, VL.gIxA, VL.atD, VL.gEq, VL.gIsN, VL.gIsB, VL.gIsi, VL.isiD, VL.vAnd, VL.vOr, VL.vNot, VL.truD, VL.tNot_, VL.tAnd_, VL.tOr_, VL.vNeg, VL.vCallF, VL.frRv, VL.vFor, VL.loopV, VL.gN, VL.iRange1, VL.upTo, VL.rngOk, VL.vComp, VL.compV, VL.compRv, VL.wipeE, VL.iSeq, VL.itemsD, VL.gStr, VL.gStrC, VL.gIntA, VL.vSplit, VL.vJoin, VL.itemsOf, VL.gTuple, VL.gList, VL.vApp, VL.chg, VL.notIn, VL.gIxK, VL.gInK, VL.lookD, VL.vAug, vSlice, vPart, cT, cD, nA, nB, noMutL_app, kA, kB, q1, q2, q3, e2, ebw, nmw] <;> first | exact rfl | exact ⟨rfl, rfl⟩ | exact ⟨rfl, rfl, rfl⟩)) ⟨_, _, rfl, fin⟩
end VL

namespace VL
open PySem TL
theorem upTo_map : ∀ (n : Nat) (i : Int), upTo i 1 n = (List.range n).map fun k : Nat => D.int (i + k)
  | 0, i => rfl
  | n + 1, i => by
    rw [upTo, upTo_map n (i + 1), List.range_succ_eq_map, List.map_cons, List.map_map]
    congr 1
    · simp
    · apply List.map_congr_left
      intro k _
      show D.int (i + 1 + k) = D.int (i + ((k + 1 : Nat) : Int))
      congr 1; omega
theorem upTo0 (n : Nat) : upTo 0 1 n = (List.range n).map fun k : Nat => D.int (k : Int) := by
  rw [upTo_map]; apply List.map_congr_left; intro k _; rw [Int.zero_add]
def flag (rs : List Rw) (k : Nat) : Bool := match rs[k]? with
  | some r => r.2
  | none => false
theorem atI_rows {rs : List Rw} {k : Nat} (h : k < rs.length) : L2.atI (rs.map rowD) (k : Int) = some (rowD rs[k]) := by
  have q : k < (rs.map rowD).length := by rw [List.length_map]; exact h
  rw [atI_get q, List.getElem_map]
theorem row_at1 (r : Rw) : L2.atI [D.lst (strsD r.1), D.bl r.2] 1 = some (.bl r.2) := atI_get (xs := [D.lst (strsD r.1), D.bl r.2]) (i := 1) (Nat.lt_succ_self 1)
theorem row_at0 (r : Rw) : L2.atI [D.lst (strsD r.1), D.bl r.2] 0 = some (.lst (strsD r.1)) := atI_zero _ _
/-- rows behind a change -/
structure Chg (rs rs' : List Rw) : Prop where
  ok : ∀ r ∈ rs', rowP r
  len : rs'.length ≤ rs.length + 1
  bad : ∃ r ∈ rs', r.2 = false
  ne : rs' ≠ []
  emp : rs ≠ [] → textR rs' ≠ ""
theorem text_pos2 {x y : Rw} {rs : List Rw} : textR (x :: y :: rs) ≠ "" := by
  intro z
  have : (textR (x :: y :: rs)).length = 0 := by rw [z]; rfl
  have e : textR (x :: y :: rs) = lineR x ++ "\n" ++ textR (y :: rs) := join_cons _ _ _ _
  rw [e, Str.length_append, Str.length_append, len_nl] at this
  omega
theorem text_two {rs : List Rw} (h : 2 ≤ rs.length) : textR rs ≠ "" := by
  match rs, h with
  | x :: y :: r, _ => exact text_pos2
theorem chg_ins {rs : List Rw} (h : ∀ r ∈ rs, rowP r) {ws : List Str} (hw : BadW ws) (ho : rOk (ws, false)) (k : Nat) : Chg rs (rs.take k ++ [(ws, false)] ++ rs.drop k) where
  ok := fun r hr => by
    simp only [List.mem_append, List.mem_singleton] at hr
    rcases hr with (hr | hr) | hr
    · exact h r (List.mem_of_mem_take hr)
    · subst hr; exact .inr ⟨rfl, hw, ho⟩
    · exact h r (List.mem_of_mem_drop hr)
  len := by simp only [List.length_append, List.length_take, List.length_drop, List.length_cons, List.length_nil]; omega
  bad := ⟨(ws, false), by simp, rfl⟩
  ne := by simp
  emp := fun hne => text_two (by
    have : 0 < rs.length := List.length_pos_iff.mpr hne
    simp only [List.length_append, List.length_take, List.length_drop, List.length_cons, List.length_nil]; omega)
theorem chg_rep {rs : List Rw} (h : ∀ r ∈ rs, rowP r) {ws : List Str} (hw : BadW ws) (ho : rOk (ws, false)) (hp : 0 < (Txt.join " " ws).length) {k : Nat} (hk : k < rs.length) : Chg rs (rs.take k ++ [(ws, false)] ++ rs.drop (k + 1)) where
  ok := fun r hr => by
    simp only [List.mem_append, List.mem_singleton] at hr
    rcases hr with (hr | hr) | hr
    · exact h r (List.mem_of_mem_take hr)
    · subst hr; exact .inr ⟨rfl, hw, ho⟩
    · exact h r (List.mem_of_mem_drop hr)
  len := by simp only [List.length_append, List.length_take, List.length_drop, List.length_cons, List.length_nil]; omega
  bad := ⟨(ws, false), by simp, rfl⟩
  ne := by simp
  emp := fun hne => by
    by_cases h1 : 2 ≤ rs.length
    · exact text_two (by simp only [List.length_append, List.length_take, List.length_drop, List.length_cons, List.length_nil]; omega)
    · have hk0 : k = 0 := by omega
      subst hk0
      have e : rs.drop 1 = [] := List.drop_eq_nil_of_le (by omega)
      rw [List.take_zero, Nat.zero_add, e]
      intro z
      have : (textR [(ws, false)]).length = 0 := by
        have z' : textR [(ws, false)] = "" := z
        rw [z']; rfl
      have e2 : textR [(ws, false)] = Txt.join " " ws := join_one _ _
      rw [e2] at this
      omega
theorem e_fine {rs : List Rw} (hn : rs.length ≤ 500) (s1 s2 s3 s4 : Slot) (f : Nat) : vComp (iRange1 (vCons (vCall (g1 gLen) (vCons (vName 0) (fun _ => some []))) (fun _ => some []))) [6] (gN 6) (tV (v2 gIx (v2 gIx (vName 0) (vName 6)) (vC (.int 1)))) (vName 6) [some (f, .lst (rs.map rowD)), s1, s2, s3, s4, none, none]
    = some ⟨.lst (((List.range rs.length).filter (flag rs)).map fun k : Nat => D.int (k : Int)), 2, []⟩ := by
  have r1 : -16777216 ≤ (rs.length : Int) := by omega
  have r2 : (rs.length : Int) ≤ 16777216 := by omega
  rw [comp_filX (al := []) (xs := List.range rs.length) (fun k : Nat => D.int (k : Int)) (flag rs) (fun k => ⟨.int (k : Int), 2, []⟩) (by simp [VL.vDef, VL.env0, VL.vSeq, VL.vSet, VL.put, VL.frz, VL.thaw, VL.vName, VL.nrm, VL.noMut, VL.noMutL, VL.v2, VL.v1, VL.vC, VL.gIC, VL.gI, VL.gAdd, VL.gMul, VL.cMul, VL.vCons, VL.vCall, VL.g1, VL.gInt, VL.gLen, VL.gAbs, VL.vRet, VL.vRetName, VL.vIfS, VL.tB_, VL.tV, VL.vLst, VL.vTup, VL.lstRv, VL.gridChild, VL.isFlat, VL.dsOf, VL.alOf, VL.mkL, VL.gCat, VL.gCatT, VL.gCatS, VL.gIx, VL.gIxA, VL.atD, VL.gEq, VL.gIsN, VL.gIsB, VL.gIsi, VL.isiD, VL.vAnd, VL.vOr, VL.vNot, VL.truD, VL.tNot_, VL.tAnd_, VL.tOr_, VL.vNeg, VL.vCallF, VL.frRv, VL.vFor, VL.loopV, VL.gN, VL.iRange1, VL.upTo, VL.rngOk, VL.vComp, VL.compV, VL.compRv, VL.wipeE, VL.iSeq, VL.itemsD, VL.gStr, VL.gStrC, VL.gIntA, VL.vSplit, VL.vJoin, VL.itemsOf, VL.gTuple, VL.gList, VL.vApp, VL.chg, VL.notIn, VL.gIxK, VL.gInK, VL.lookD, VL.vAug, r1, r2, upTo0]) (fun k hk => ?_), compRv_map fun _ _ => rfl]
  have hk := List.mem_range.mp hk
  have ea := atI_rows hk
  have e1 := row_at1 rs[k]
  have ef : flag rs k = rs[k].2 := by unfold flag; rw [List.getElem?_eq_getElem hk]
  refine ⟨[some (f, .lst (rs.map rowD)), s1, s2, s3, s4, none, some (0, .int k)], by simp [VL.vDef, VL.env0, VL.vSeq, VL.vSet, VL.put, VL.frz, VL.thaw, VL.vName, VL.nrm, VL.noMut, VL.noMutL, VL.v2, VL.v1, VL.vC, VL.gIC, VL.gI, VL.gAdd, VL.gMul, VL.cMul, VL.vCons, VL.vCall, VL.g1, VL.gInt, VL.gLen, VL.gAbs, VL.vRet, VL.vRetName, VL.vIfS, VL.tB_, VL.tV, VL.vLst, VL.vTup, VL.lstRv, VL.gridChild, VL.isFlat, VL.dsOf, VL.alOf, VL.mkL, VL.gCat, VL.gCatT, VL.gCatS, VL.gIx, VL.gIxA, VL.atD, VL.gEq, VL.gIsN, VL.gIsB, VL.gIsi, VL.isiD, VL.vAnd, VL.vOr, VL.vNot, VL.truD, VL.tNot_, VL.tAnd_, VL.tOr_, VL.vNeg, VL.vCallF, VL.frRv, VL.vFor, VL.loopV, VL.gN, VL.iRange1, VL.upTo, VL.rngOk, VL.vComp, VL.compV, VL.compRv, VL.wipeE, VL.iSeq, VL.itemsD, VL.gStr, VL.gStrC, VL.gIntA, VL.vSplit, VL.vJoin, VL.itemsOf, VL.gTuple, VL.gList, VL.vApp, VL.chg, VL.notIn, VL.gIxK, VL.gInK, VL.lookD, VL.vAug], ?_, fun _ => by simp [VL.vDef, VL.env0, VL.vSeq, VL.vSet, VL.put, VL.frz, VL.thaw, VL.vName, VL.nrm, VL.noMut, VL.noMutL, VL.v2, VL.v1, VL.vC, VL.gIC, VL.gI, VL.gAdd, VL.gMul, VL.cMul, VL.vCons, VL.vCall, VL.g1, VL.gInt, VL.gLen, VL.gAbs, VL.vRet, VL.vRetName, VL.vIfS, VL.tB_, VL.tV, VL.vLst, VL.vTup, VL.lstRv, VL.gridChild, VL.isFlat, VL.dsOf, VL.alOf, VL.mkL, VL.gCat, VL.gCatT, VL.gCatS, VL.gIx, VL.gIxA, VL.atD, VL.gEq, VL.gIsN, VL.gIsB, VL.gIsi, VL.isiD, VL.vAnd, VL.vOr, VL.vNot, VL.truD, VL.tNot_, VL.tAnd_, VL.tOr_, VL.vNeg, VL.vCallF, VL.frRv, VL.vFor, VL.loopV, VL.gN, VL.iRange1, VL.upTo, VL.rngOk, VL.vComp, VL.compV, VL.compRv, VL.wipeE, VL.iSeq, VL.itemsD, VL.gStr, VL.gStrC, VL.gIntA, VL.vSplit, VL.vJoin, VL.itemsOf, VL.gTuple, VL.gList, VL.vApp, VL.chg, VL.notIn, VL.gIxK, VL.gInK, VL.lookD, VL.vAug]⟩
  rw [ef]
  cases noMutL (rs.map rowD) <;> simp [VL.vDef, VL.env0, VL.vSeq, VL.vSet, VL.put, VL.frz, VL.thaw, VL.vName, VL.nrm, VL.noMut, VL.noMutL, VL.v2, VL.v1, VL.vC, VL.gIC, VL.gI, VL.gAdd, VL.gMul, VL.cMul, VL.vCons, VL.vCall, VL.g1, VL.gInt, VL.gLen, VL.gAbs, VL.vRet, VL.vRetName, VL.vIfS, VL.tB_, VL.tV, VL.vLst, VL.vTup, VL.lstRv, VL.gridChild, VL.isFlat, VL.dsOf, VL.alOf, VL.mkL, VL.gCat, VL.gCatT, VL.gCatS, VL.gIx, VL.gIxA, VL.atD, VL.gEq, VL.gIsN, VL.gIsB, VL.gIsi, VL.isiD, VL.vAnd, VL.vOr, VL.vNot, VL.truD, VL.tNot_, VL.tAnd_, VL.tOr_, VL.vNeg, VL.vCallF, VL.frRv, VL.vFor, VL.loopV, VL.gN, VL.iRange1, VL.upTo, VL.rngOk, VL.vComp, VL.compV, VL.compRv, VL.wipeE, VL.iSeq, VL.itemsD, VL.gStr, VL.gStrC, VL.gIntA, VL.vSplit, VL.vJoin, VL.itemsOf, VL.gTuple, VL.gList, VL.vApp, VL.chg, VL.notIn, VL.gIxK, VL.gInK, VL.lookD, VL.vAug, ea, rowD, e1]

theorem ints_nil (ns : List Nat) : eqD (.lst (ns.map fun k : Nat => D.int (k : Int))) (.lst []) = some (decide (ns = [])) := by
  have e : (ns.map fun k : Nat => D.int (k : Int)) = (ns.map fun k : Nat => (k : Int)).map D.int := by rw [List.map_map]; rfl
  rw [e, eqD_nil]
  cases ns <;> rfl
theorem e_changed {rs : List Rw} (hn : rs.length ≤ 400) (h : ∀ r ∈ rs, rowP r) {n : Nat} {p : List D} (hp : Pool n p) {start : Int} (h0 : 0 ≤ start) (h1 : start + 4 < n) : ∃ d l, c_law_changed [.lst (rs.map rowD), .lst p, .int start] = .ok d l ∧ ∃ rs', d = .lst (rs'.map rowD) ∧ Chg rs rs' := by
  refine En.defI ?_
  show En (b_law_changed [some (0, .lst (rs.map rowD)), some (0, .lst p), some (0, .int start), none, none, none, none]) _
  obtain ⟨v0, e0, v0a, v0b⟩ := hp.at_ (i := start) h0 (by omega)
  obtain ⟨v1, e1, v1a, v1b⟩ := hp.at_ (i := start + 1) (by omega) (by omega)
  have g1 : (0 : Int) < (rs.length : Int) + 1 := by omega
  unfold b_law_changed
  refine En.seq (by (simp [VL.vDef, VL.env0, VL.vSeq, VL.vSet, VL.put, VL.frz, VL.thaw, VL.vName, VL.nrm, VL.noMut, VL.noMutL, VL.v2, VL.v1, VL.vC, VL.gIC, VL.gI, VL.gAdd, VL.gMul, VL.cMul, VL.vCons, VL.vCall, VL.g1, VL.gInt, VL.gLen, VL.gAbs, VL.vRet, VL.vRetName, VL.vIfS, VL.tB_, VL.tV, VL.vLst, VL.vTup, VL.lstRv, VL.gridChild, VL.isFlat, VL.dsOf, VL.alOf, VL.mkL, VL.gCat, VL.gCatT, VL.gCatS, VL.gIx, VL.gIxA, VL.atD, VL.gEq, VL.gIsN, VL.gIsB, VL.gIsi, VL.isiD, VL.vAnd, VL.vOr, VL.vNot, VL.truD, VL.tNot_, VL.tAnd_, VL.tOr_, VL.vNeg, VL.vCallF, VL.frRv, VL.vFor, VL.loopV, VL.gN, VL.iRange1, VL.upTo, VL.rngOk, VL.vComp, VL.compV, VL.compRv, VL.wipeE, VL.iSeq, VL.itemsD, VL.gStr, VL.gStrC, VL.gIntA, VL.vSplit, VL.vJoin, VL.itemsOf, VL.gTuple, VL.gList, VL.vApp, VL.chg, VL.notIn, VL.gIxK, VL.gInK, VL.lookD, VL.vAug, e0] <;> first | exact rfl | exact ⟨rfl, rfl⟩ | exact ⟨rfl, rfl, rfl⟩)) ?_
  refine En.seq (e := [some (0, .lst (rs.map rowD)), some (0, .lst p), some (0, .int start), some (2, .int (v0 % 6)), some (2, .int (v1 % ((rs.length : Int) + 1))), none, none]) (by simp [VL.vDef, VL.env0, VL.vSeq, VL.vSet, VL.put, VL.frz, VL.thaw, VL.vName, VL.nrm, VL.noMut, VL.noMutL, VL.v2, VL.v1, VL.vC, VL.gIC, VL.gI, VL.gAdd, VL.gMul, VL.cMul, VL.vCons, VL.vCall, VL.g1, VL.gInt, VL.gLen, VL.gAbs, VL.vRet, VL.vRetName, VL.vIfS, VL.tB_, VL.tV, VL.vLst, VL.vTup, VL.lstRv, VL.gridChild, VL.isFlat, VL.dsOf, VL.alOf, VL.mkL, VL.gCat, VL.gCatT, VL.gCatS, VL.gIx, VL.gIxA, VL.atD, VL.gEq, VL.gIsN, VL.gIsB, VL.gIsi, VL.isiD, VL.vAnd, VL.vOr, VL.vNot, VL.truD, VL.tNot_, VL.tAnd_, VL.tOr_, VL.vNeg, VL.vCallF, VL.frRv, VL.vFor, VL.loopV, VL.gN, VL.iRange1, VL.upTo, VL.rngOk, VL.vComp, VL.compV, VL.compRv, VL.wipeE, VL.iSeq, VL.itemsD, VL.gStr, VL.gStrC, VL.gIntA, VL.vSplit, VL.vJoin, VL.itemsOf, VL.gTuple, VL.gList, VL.vApp, VL.chg, VL.notIn, VL.gIxK, VL.gInK, VL.lookD, VL.vAug, e1, g1]) ?_
  have a0 : 0 ≤ v1 % ((rs.length : Int) + 1) := Int.emod_nonneg _ (by omega)
  have a1 : v1 % ((rs.length : Int) + 1) < (rs.length : Int) + 1 := Int.emod_lt_of_pos _ g1
  generalize v1 % ((rs.length : Int) + 1) = at_ at a0 a1
  have ef := e_fine (rs := rs) (by omega) (some (0, .lst p)) (some (0, .int start)) (some (2, .int (v0 % 6))) (some (2, .int at_)) 0
  generalize hfine : (List.range rs.length).filter (flag rs) = fine at ef
  refine En.seq (e := [some (0, .lst (rs.map rowD)), some (0, .lst p), some (0, .int start), some (2, .int (v0 % 6)), some (2, .int at_), some (2, .lst (fine.map fun k : Nat => D.int (k : Int))), none]) (by simp [VL.vDef, VL.env0, VL.vSeq, VL.vSet, VL.put, VL.frz, VL.thaw, VL.vName, VL.nrm, VL.noMut, VL.noMutL, VL.v2, VL.v1, VL.vC, VL.gIC, VL.gI, VL.gAdd, VL.gMul, VL.cMul, VL.vCons, VL.vCall, VL.g1, VL.gInt, VL.gLen, VL.gAbs, VL.vRet, VL.vRetName, VL.vIfS, VL.tB_, VL.tV, VL.vLst, VL.vTup, VL.lstRv, VL.gridChild, VL.isFlat, VL.dsOf, VL.alOf, VL.mkL, VL.gCat, VL.gCatT, VL.gCatS, VL.gIx, VL.gIxA, VL.atD, VL.gEq, VL.gIsN, VL.gIsB, VL.gIsi, VL.isiD, VL.vAnd, VL.vOr, VL.vNot, VL.truD, VL.tNot_, VL.tAnd_, VL.tOr_, VL.vNeg, VL.vCallF, VL.frRv, VL.vFor, VL.loopV, VL.gN, VL.iRange1, VL.upTo, VL.rngOk, VL.gStr, VL.gStrC, VL.gIntA, VL.vSplit, VL.vJoin, VL.itemsOf, VL.gTuple, VL.gList, VL.vApp, VL.chg, VL.notIn, VL.gIxK, VL.gInK, VL.lookD, VL.vAug, ef]) ?_
  -- a row put in
  have cT := cutD_take (rs.map rowD) a0
  have cD := cutD_drop (rs.map rowD) a0
  rw [← List.map_take] at cT
  rw [← List.map_drop] at cD
  have kA : ((rs.take at_.toNat).map rowD).length ≤ 400 := by rw [List.length_map, List.length_take]; omega
  have kB : ((rs.drop at_.toNat).map rowD).length ≤ 400 := by rw [List.length_map, List.length_drop]; omega
  have ins : ∀ ws, BadW ws → rOk (ws, false) → ∃ rs', D.lst ((rs.take at_.toNat).map rowD ++ rowD (ws, false) :: (rs.drop at_.toNat).map rowD) = .lst (rs'.map rowD) ∧ Chg rs rs' := fun ws hw ho => ⟨_, by simp, chg_ins h hw ho at_.toNat⟩
  obtain ⟨a, ha⟩ : ∃ a, ((rs.take at_.toNat).map rowD).length = a := ⟨_, rfl⟩
  obtain ⟨b, hb⟩ : ∃ b, ((rs.drop at_.toNat).map rowD).length = b := ⟨_, rfl⟩
  rw [ha] at kA
  rw [hb] at kB
  have q1 : a ≤ 16777215 := by omega
  have q2 : a + 1 ≤ 16777216 := by omega
  have q3 : a + 1 + b ≤ 16777216 := by omega
  have w1 : BadW [""] ∧ rOk ([""], false) := ⟨bad_head (by kernel_rfl), by decide, fun w hw => by
    rw [List.mem_singleton] at hw; subst hw; exact ⟨by decide +kernel, by decide +kernel, by decide +kernel, by decide +kernel⟩⟩
  have w2 : BadW ["", ""] ∧ rOk (["", ""], false) := ⟨bad_head (by kernel_rfl), by show 2 ≤ 8; decide, fun w hw => by
    have : w = "" := by simpa using hw
    subst this; exact ⟨by decide +kernel, by decide +kernel, by decide +kernel, by decide +kernel⟩⟩
  have i1 := ins [""] w1.1 w1.2
  have i2 := ins ["", ""] w2.1 w2.2
  have hR1 : rowD ([""], false) = .tup [.lst [.str ""], .bl false] := rfl
  have hR2 : rowD (["", ""], false) = .tup [.lst [.str "", .str ""], .bl false] := rfl
  rw [hR1] at i1
  rw [hR2] at i2
  refine En.retIf (decide (v0 % 6 = 0)) (by simp [VL.vDef, VL.env0, VL.vSeq, VL.vSet, VL.put, VL.frz, VL.thaw, VL.vName, VL.nrm, VL.noMut, VL.noMutL, VL.v2, VL.v1, VL.vC, VL.gIC, VL.gI, VL.gAdd, VL.gMul, VL.cMul, VL.vCons, VL.vCall, VL.g1, VL.gInt, VL.gLen, VL.gAbs, VL.vRet, VL.vRetName, VL.vIfS, VL.tB_, VL.tV, VL.vLst, VL.vTup, VL.lstRv, VL.gridChild, VL.isFlat, VL.dsOf, VL.alOf, VL.mkL, VL.gCat, VL.gCatT, VL.gCatS, VL.gIx, VL.gIxA, VL.atD, VL.gEq, VL.gIsN, VL.gIsB, VL.gIsi, VL.isiD, VL.vAnd, VL.vOr, VL.vNot, VL.truD, VL.tNot_, VL.tAnd_, VL.tOr_, VL.vNeg, VL.vCallF, VL.frRv, VL.vFor, VL.loopV, VL.gN, VL.iRange1, VL.upTo, VL.rngOk, VL.gStr, VL.gStrC, VL.gIntA, VL.vSplit, VL.vJoin, VL.itemsOf, VL.gTuple, VL.gList, VL.vApp, VL.chg, VL.notIn, VL.gIxK, VL.gInK, VL.lookD, VL.vAug, eqD_int]) (fun c => ?_) (fun c => ?_)
  · generalize (rs.take at_.toNat).map rowD = A at *
    generalize (rs.drop at_.toNat).map rowD = B at *
    cases hA : noMutL A <;> cases hB : noMutL B <;> exact En.seq_ret (by (simp [VL.vDef, VL.env0, VL.vSeq, VL.vSet, VL.put, VL.frz, VL.thaw, VL.vName, VL.nrm, VL.noMut, VL.noMutL, VL.v2, VL.v1, VL.vC, VL.gIC, VL.gI, VL.gAdd, VL.gMul, VL.cMul, VL.vCons, VL.vCall, VL.g1, VL.gInt, VL.gLen, VL.gAbs, VL.vRet, VL.vRetName, VL.vIfS, VL.tB_, VL.tV, VL.vLst, VL.vTup, VL.lstRv, VL.gridChild, VL.isFlat, VL.dsOf, VL.alOf, VL.mkL, VL.gCat, VL.gCatT, VL.gCatS, VL.gIx, VL.gIxA, VL.atD, VL.gEq, VL.gIsN, VL.gIsB, VL.gIsi, VL.isiD, VL.vAnd, VL.vOr, VL.vNot, VL.truD, VL.tNot_, VL.tAnd_, VL.tOr_, VL.vNeg, VL.vCallF, VL.frRv, VL.vFor, VL.loopV, VL.gN, VL.iRange1, VL.upTo, VL.rngOk, VL.vComp, VL.compV, VL.compRv, VL.wipeE, VL.iSeq, VL.itemsD, VL.gStr, VL.gStrC, VL.gIntA, VL.vSplit, VL.vJoin, VL.itemsOf, VL.gTuple, VL.gList, VL.vApp, VL.chg, VL.notIn, VL.gIxK, VL.gInK, VL.lookD, VL.vAug, vSlice, vPart, cT, cD, hA, hB, noMutL_app, ha, hb, q1, q2, q3] <;> first | exact rfl | exact ⟨rfl, rfl⟩ | exact ⟨rfl, rfl, rfl⟩)) ⟨_, _, rfl, i1⟩
  refine En.skip (En.retIf (decide (v0 % 6 = 1)) (by simp [VL.vDef, VL.env0, VL.vSeq, VL.vSet, VL.put, VL.frz, VL.thaw, VL.vName, VL.nrm, VL.noMut, VL.noMutL, VL.v2, VL.v1, VL.vC, VL.gIC, VL.gI, VL.gAdd, VL.gMul, VL.cMul, VL.vCons, VL.vCall, VL.g1, VL.gInt, VL.gLen, VL.gAbs, VL.vRet, VL.vRetName, VL.vIfS, VL.tB_, VL.tV, VL.vLst, VL.vTup, VL.lstRv, VL.gridChild, VL.isFlat, VL.dsOf, VL.alOf, VL.mkL, VL.gCat, VL.gCatT, VL.gCatS, VL.gIx, VL.gIxA, VL.atD, VL.gEq, VL.gIsN, VL.gIsB, VL.gIsi, VL.isiD, VL.vAnd, VL.vOr, VL.vNot, VL.truD, VL.tNot_, VL.tAnd_, VL.tOr_, VL.vNeg, VL.vCallF, VL.frRv, VL.vFor, VL.loopV, VL.gN, VL.iRange1, VL.upTo, VL.rngOk, VL.gStr, VL.gStrC, VL.gIntA, VL.vSplit, VL.vJoin, VL.itemsOf, VL.gTuple, VL.gList, VL.vApp, VL.chg, VL.notIn, VL.gIxK, VL.gInK, VL.lookD, VL.vAug, eqD_int]) (fun c => ?_) (fun c => ?_))
  · have i3 : ∃ rs', D.lst (rs.map rowD ++ [.tup [.lst [.str ""], .bl false]]) = .lst (rs'.map rowD) ∧ Chg rs rs' := by
      refine ⟨rs.take rs.length ++ ([(([""] : List Str), false)] : List Rw) ++ rs.drop rs.length, ?_, chg_ins h w1.1 w1.2 _⟩
      rw [List.take_length, List.drop_length, List.append_nil, List.map_append, ← hR1]; rfl
    have q4 : rs.length ≤ 16777215 := by omega
    have hl : (rs.map rowD).length = rs.length := List.length_map ..
    generalize hA : rs.map rowD = A at *
    cases hA : noMutL A <;> exact En.seq_ret (by (simp [VL.vDef, VL.env0, VL.vSeq, VL.vSet, VL.put, VL.frz, VL.thaw, VL.vName, VL.nrm, VL.noMut, VL.noMutL, VL.v2, VL.v1, VL.vC, VL.gIC, VL.gI, VL.gAdd, VL.gMul, VL.cMul, VL.vCons, VL.vCall, VL.g1, VL.gInt, VL.gLen, VL.gAbs, VL.vRet, VL.vRetName, VL.vIfS, VL.tB_, VL.tV, VL.vLst, VL.vTup, VL.lstRv, VL.gridChild, VL.isFlat, VL.dsOf, VL.alOf, VL.mkL, VL.gCat, VL.gCatT, VL.gCatS, VL.gIx, VL.gIxA, VL.atD, VL.gEq, VL.gIsN, VL.gIsB, VL.gIsi, VL.isiD, VL.vAnd, VL.vOr, VL.vNot, VL.truD, VL.tNot_, VL.tAnd_, VL.tOr_, VL.vNeg, VL.vCallF, VL.frRv, VL.vFor, VL.loopV, VL.gN, VL.iRange1, VL.upTo, VL.rngOk, VL.vComp, VL.compV, VL.compRv, VL.wipeE, VL.iSeq, VL.itemsD, VL.gStr, VL.gStrC, VL.gIntA, VL.vSplit, VL.vJoin, VL.itemsOf, VL.gTuple, VL.gList, VL.vApp, VL.chg, VL.notIn, VL.gIxK, VL.gInK, VL.lookD, VL.vAug, hA, noMutL_app, hl, q4] <;> first | exact rfl | exact ⟨rfl, rfl⟩ | exact ⟨rfl, rfl, rfl⟩)) ⟨_, _, rfl, i3⟩
  refine En.skip (En.retIf (decide (v0 % 6 = 2) || decide (fine = [])) (by
    have ed := ints_nil fine
    cases c2 : decide (v0 % 6 = 2)
    · have c2' : ¬ v0 % 6 = 2 := of_decide_eq_false c2
      simp [VL.vDef, VL.env0, VL.vSeq, VL.vSet, VL.put, VL.frz, VL.thaw, VL.vName, VL.nrm, VL.noMut, VL.noMutL, VL.v2, VL.v1, VL.vC, VL.gIC, VL.gI, VL.gAdd, VL.gMul, VL.cMul, VL.vCons, VL.vCall, VL.g1, VL.gInt, VL.gLen, VL.gAbs, VL.vRet, VL.vRetName, VL.vIfS, VL.tB_, VL.tV, VL.vLst, VL.vTup, VL.lstRv, VL.gridChild, VL.isFlat, VL.dsOf, VL.alOf, VL.mkL, VL.gCat, VL.gCatT, VL.gCatS, VL.gIx, VL.gIxA, VL.atD, VL.gEq, VL.gIsN, VL.gIsB, VL.gIsi, VL.isiD, VL.vAnd, VL.vOr, VL.vNot, VL.truD, VL.tNot_, VL.tAnd_, VL.tOr_, VL.vNeg, VL.vCallF, VL.frRv, VL.vFor, VL.loopV, VL.gN, VL.iRange1, VL.upTo, VL.rngOk, VL.gStr, VL.gStrC, VL.gIntA, VL.vSplit, VL.vJoin, VL.itemsOf, VL.gTuple, VL.gList, VL.vApp, VL.chg, VL.notIn, VL.gIxK, VL.gInK, VL.lookD, VL.vAug, eqD_int, ed, c2']
    · have c2' : v0 % 6 = 2 := of_decide_eq_true c2
      simp [VL.vDef, VL.env0, VL.vSeq, VL.vSet, VL.put, VL.frz, VL.thaw, VL.vName, VL.nrm, VL.noMut, VL.noMutL, VL.v2, VL.v1, VL.vC, VL.gIC, VL.gI, VL.gAdd, VL.gMul, VL.cMul, VL.vCons, VL.vCall, VL.g1, VL.gInt, VL.gLen, VL.gAbs, VL.vRet, VL.vRetName, VL.vIfS, VL.tB_, VL.tV, VL.vLst, VL.vTup, VL.lstRv, VL.gridChild, VL.isFlat, VL.dsOf, VL.alOf, VL.mkL, VL.gCat, VL.gCatT, VL.gCatS, VL.gIx, VL.gIxA, VL.atD, VL.gEq, VL.gIsN, VL.gIsB, VL.gIsi, VL.isiD, VL.vAnd, VL.vOr, VL.vNot, VL.truD, VL.tNot_, VL.tAnd_, VL.tOr_, VL.vNeg, VL.vCallF, VL.frRv, VL.vFor, VL.loopV, VL.gN, VL.iRange1, VL.upTo, VL.rngOk, VL.gStr, VL.gStrC, VL.gIntA, VL.vSplit, VL.vJoin, VL.itemsOf, VL.gTuple, VL.gList, VL.vApp, VL.chg, VL.notIn, VL.gIxK, VL.gInK, VL.lookD, VL.vAug, eqD_int, ed, c2']) (fun c => ?_) (fun c => ?_))
  · generalize (rs.take at_.toNat).map rowD = A at *
    generalize (rs.drop at_.toNat).map rowD = B at *
    cases hA : noMutL A <;> cases hB : noMutL B <;> exact En.seq_ret (by (simp [VL.vDef, VL.env0, VL.vSeq, VL.vSet, VL.put, VL.frz, VL.thaw, VL.vName, VL.nrm, VL.noMut, VL.noMutL, VL.v2, VL.v1, VL.vC, VL.gIC, VL.gI, VL.gAdd, VL.gMul, VL.cMul, VL.vCons, VL.vCall, VL.g1, VL.gInt, VL.gLen, VL.gAbs, VL.vRet, VL.vRetName, VL.vIfS, VL.tB_, VL.tV, VL.vLst, VL.vTup, VL.lstRv, VL.gridChild, VL.isFlat, VL.dsOf, VL.alOf, VL.mkL, VL.gCat, VL.gCatT, VL.gCatS, VL.gIx, VL.gIxA, VL.atD, VL.gEq, VL.gIsN, VL.gIsB, VL.gIsi, VL.isiD, VL.vAnd, VL.vOr, VL.vNot, VL.truD, VL.tNot_, VL.tAnd_, VL.tOr_, VL.vNeg, VL.vCallF, VL.frRv, VL.vFor, VL.loopV, VL.gN, VL.iRange1, VL.upTo, VL.rngOk, VL.vComp, VL.compV, VL.compRv, VL.wipeE, VL.iSeq, VL.itemsD, VL.gStr, VL.gStrC, VL.gIntA, VL.vSplit, VL.vJoin, VL.itemsOf, VL.gTuple, VL.gList, VL.vApp, VL.chg, VL.notIn, VL.gIxK, VL.gInK, VL.lookD, VL.vAug, vSlice, vPart, cT, cD, hA, hB, noMutL_app, ha, hb, q1, q2, q3] <;> first | exact rfl | exact ⟨rfl, rfl⟩ | exact ⟨rfl, rfl, rfl⟩)) ⟨_, _, rfl, i2⟩
  refine En.skip ?_
  rw [Bool.or_eq_false_iff] at c
  have hf0 : fine ≠ [] := of_decide_eq_false c.2
  have hfl : 0 < fine.length := List.length_pos_iff.mpr hf0
  have hfl2 : (0 : Int) < fine.length := by omega
  have b0 : 0 ≤ v1 % (fine.length : Int) := Int.emod_nonneg _ (by omega)
  have b1 : v1 % (fine.length : Int) < fine.length := Int.emod_lt_of_pos _ hfl2
  have hix : (v1 % (fine.length : Int)).toNat < fine.length := by omega
  obtain ⟨k, hk⟩ : ∃ k, fine[(v1 % (fine.length : Int)).toNat] = k := ⟨_, rfl⟩
  have hmem : k ∈ fine := by rw [← hk]; exact List.getElem_mem hix
  rw [← hfine] at hmem
  obtain ⟨m1, m2⟩ := List.mem_filter.mp hmem
  have hkn : k < rs.length := List.mem_range.mp m1
  have hfk : rs[k].2 = true := by unfold flag at m2; rw [List.getElem?_eq_getElem hkn] at m2; exact m2
  obtain ⟨m, hm, er⟩ : ∃ m : Mv, m.ok ∧ rs[k] = rowOf m := by
    rcases h _ (List.getElem_mem hkn) with ⟨m, hm, er⟩ | ⟨hf, _⟩
    · exact ⟨m, hm, er⟩
    · rw [hfk] at hf; cases hf
  have eat : L2.atI (fine.map fun k : Nat => D.int (k : Int)) (v1 % (fine.length : Int)) = some (.int k) := by
    have q : (v1 % (fine.length : Int)).toNat < (fine.map fun k : Nat => D.int (k : Int)).length := by rw [List.length_map]; exact hix
    rw [atI_getI b0 q, List.getElem_map, hk]
  have lf : (fine.map fun k : Nat => D.int (k : Int)).length = fine.length := List.length_map ..
  have nf : noMutL (fine.map fun k : Nat => D.int (k : Int)) = true := noMutL_of fun d hd => by
    obtain ⟨k, _, rfl⟩ := List.mem_map.mp hd; rfl
  refine En.seq (e := [some (0, .lst (rs.map rowD)), some (0, .lst p), some (0, .int start), some (2, .int (v0 % 6)), some (2, .int k), some (2, .lst (fine.map fun k : Nat => D.int (k : Int))), none]) (by
    generalize (fine.map fun k : Nat => D.int (k : Int)) = Fi at lf eat nf ⊢
    generalize fine.length = fl at lf eat hfl hfl2 ⊢
    simp [VL.vDef, VL.env0, VL.vSeq, VL.vSet, VL.put, VL.frz, VL.thaw, VL.vName, VL.nrm, VL.noMut, VL.noMutL, VL.v2, VL.v1, VL.vC, VL.gIC, VL.gI, VL.gAdd, VL.gMul, VL.cMul, VL.vCons, VL.vCall, VL.g1, VL.gInt, VL.gLen, VL.gAbs, VL.vRet, VL.vRetName, VL.vIfS, VL.tB_, VL.tV, VL.vLst, VL.vTup, VL.lstRv, VL.gridChild, VL.isFlat, VL.dsOf, VL.alOf, VL.mkL, VL.gCat, VL.gCatT, VL.gCatS, VL.gIx, VL.gIxA, VL.atD, VL.gEq, VL.gIsN, VL.gIsB, VL.gIsi, VL.isiD, VL.vAnd, VL.vOr, VL.vNot, VL.truD, VL.tNot_, VL.tAnd_, VL.tOr_, VL.vNeg, VL.vCallF, VL.frRv, VL.vFor, VL.loopV, VL.gN, VL.iRange1, VL.upTo, VL.rngOk, VL.gStr, VL.gStrC, VL.gIntA, VL.vSplit, VL.vJoin, VL.itemsOf, VL.gTuple, VL.gList, VL.vApp, VL.chg, VL.notIn, VL.gIxK, VL.gInK, VL.lookD, VL.vAug, e1, lf, hfl2, hfl, eat, nf]) ?_
  obtain ⟨bd, bl, eb, ws, hws, bw, bo, bp⟩ := e_bad_words hm hp (start := start + 2) (by omega) (by omega)
  subst hws
  have ek : L2.atI (rs.map rowD) (k : Int) = some (.tup [.lst (strsD m.ws), .bl true]) := by rw [atI_rows hkn, er]; rfl
  have ek0 : L2.atI [D.lst (strsD m.ws), .bl true] 0 = some (.lst (strsD m.ws)) := atI_zero _ _
  have cT2 := cutD_take (rs.map rowD) (i := (k : Int)) (by omega)
  have cD2 := cutD_drop (rs.map rowD) (i := (k : Int) + 1) (by omega)
  have t1 : (k : Int).toNat = k := by omega
  have t2 : ((k : Int) + 1).toNat = k + 1 := by omega
  rw [← List.map_take, t1] at cT2
  rw [← List.map_drop, t2] at cD2
  have fin : ∃ rs', D.lst ((rs.take k).map rowD ++ .tup [.lst (strsD ws), .bl false] :: (rs.drop (k + 1)).map rowD) = .lst (rs'.map rowD) ∧ Chg rs rs' := ⟨_, by simp [rowD], chg_rep h bw bo bp hkn⟩
  have kA2 : ((rs.take k).map rowD).length ≤ 400 := by rw [List.length_map, List.length_take]; omega
  have kB2 : ((rs.drop (k + 1)).map rowD).length ≤ 400 := by rw [List.length_map, List.length_drop]; omega
  obtain ⟨a2, ha2⟩ : ∃ a, ((rs.take k).map rowD).length = a := ⟨_, rfl⟩
  obtain ⟨b2, hb2⟩ : ∃ b, ((rs.drop (k + 1)).map rowD).length = b := ⟨_, rfl⟩
  rw [ha2] at kA2
  rw [hb2] at kB2
  have p1 : a2 ≤ 16777215 := by omega
  have p2 : a2 + 1 ≤ 16777216 := by omega
  have p3 : a2 + 1 + b2 ≤ 16777216 := by omega
  have nR : noMutL (rs.map rowD) = false := by
    cases hq : noMutL (rs.map rowD) with
    | false => rfl
    | true =>
      have := noMutL_mem hq _ (List.mem_map.mpr ⟨_, List.getElem_mem hkn, rfl⟩)
      unfold rowD at this
      cases this
  have nP : noMutL p = true := noMutL_of fun d hd => by obtain ⟨i, rfl, _⟩ := hp.2 d hd; rfl
  generalize (rs.take k).map rowD = A at *
  generalize (rs.drop (k + 1)).map rowD = B at *
  generalize rs.map rowD = R at *
  generalize strsD m.ws = Wd at *
  have nW := noMut_strs ws
  generalize strsD ws = Ws at *
  cases hA : noMutL A <;> cases hB : noMutL B <;> exact En.is (by (simp [VL.vDef, VL.env0, VL.vSeq, VL.vSet, VL.put, VL.frz, VL.thaw, VL.vName, VL.nrm, VL.noMut, VL.noMutL, VL.v2, VL.v1, VL.vC, VL.gIC, VL.gI, VL.gAdd, VL.gMul, VL.cMul, VL.vCons, VL.vCall, VL.g1, VL.gInt, VL.gLen, VL.gAbs, VL.vRet, VL.vRetName, VL.vIfS, VL.tB_, VL.tV, VL.vLst, VL.vTup, VL.lstRv, VL.gridChild, VL.isFlat, VL.dsOf, VL.alOf, VL.mkL, VL.gCat, VL.gCatT, VL.gCatS, VL.gIx, VL.gIxA, VL.atD, VL.gEq, VL.gIsN, VL.gIsB, VL.gIsi, VL.isiD, VL.vAnd, VL.vOr, VL.vNot, VL.truD, VL.tNot_, VL.tAnd_, VL.tOr_, VL.vNeg, VL.vCallF, VL.frRv, VL.vFor, VL.loopV, VL.gN, VL.iRange1, VL.upTo, VL.rngOk, VL.vComp, VL.compV, VL.compRv, VL.wipeE, VL.iSeq, VL.itemsD, VL.gStr, VL.gStrC, VL.gIntA, VL.vSplit, VL.vJoin, VL.itemsOf, VL.gTuple, VL.gList, VL.vApp, VL.chg, VL.notIn, VL.gIxK, VL.gInK, VL.lookD, VL.vAug, vSlice, vPart, cT2, cD2, hA, hB, noMutL_app, ha2, hb2, p1, p2, p3, ek, ek0, eb, nR, nP, nW] <;> first | exact rfl | exact ⟨rfl, rfl⟩ | exact ⟨rfl, rfl, rfl⟩)) ⟨_, _, rfl, fin⟩
end VL

namespace VL
open PySem TL
theorem e_read_ok {t : Str} {d : D} {l : Nat} (h : c_read_run [.str t] = .ok d l) : ∃ l', c_law_read [.str t] = .ok d l' := by
  have main : En (b_law_read [some (0, .str t), none, none]) fun r => ∃ l', r = .ret d l' := by
    unfold b_law_read
    refine En.seq (by (simp [VL.vDef, VL.env0, VL.vSeq, VL.vSet, VL.put, VL.frz, VL.thaw, VL.vName, VL.nrm, VL.noMut, VL.noMutL, VL.v2, VL.v1, VL.vC, VL.gIC, VL.gI, VL.gAdd, VL.gMul, VL.cMul, VL.vCons, VL.vCall, VL.g1, VL.gInt, VL.gLen, VL.gAbs, VL.vRet, VL.vRetName, VL.vIfS, VL.tB_, VL.tV, VL.vLst, VL.vTup, VL.lstRv, VL.gridChild, VL.isFlat, VL.dsOf, VL.alOf, VL.mkL, VL.gCat, VL.gCatT, VL.gCatS, VL.gIx, VL.gIxA, VL.atD, VL.gEq, VL.gIsN, VL.gIsB, VL.gIsi, VL.isiD, VL.vAnd, VL.vOr, VL.vNot, VL.truD, VL.tNot_, VL.tAnd_, VL.tOr_, VL.vNeg, VL.vCallF, VL.frRv, VL.vFor, VL.loopV, VL.gN, VL.iRange1, VL.upTo, VL.rngOk, VL.vComp, VL.compV, VL.compRv, VL.wipeE, VL.iSeq, VL.itemsD, VL.gStr, VL.gStrC, VL.gIntA, VL.vSplit, VL.vJoin, VL.itemsOf, VL.gTuple, VL.gList, VL.vApp, VL.chg, VL.notIn, VL.gIxK, VL.gInK, VL.lookD, VL.vAug] <;> first | exact rfl | exact ⟨rfl, rfl⟩ | exact ⟨rfl, rfl, rfl⟩)) ?_
    cases hn : noMut d with
    | true =>
      refine En.seq (e := [some (0, .str t), some (2, d), none]) (by simp [VL.vDef, VL.env0, VL.vSeq, VL.vSet, VL.put, VL.frz, VL.thaw, VL.vName, VL.nrm, VL.noMut, VL.noMutL, VL.v2, VL.v1, VL.vC, VL.gIC, VL.gI, VL.gAdd, VL.gMul, VL.cMul, VL.vCons, VL.vCall, VL.g1, VL.gInt, VL.gLen, VL.gAbs, VL.vRet, VL.vRetName, VL.vIfS, VL.tB_, VL.tV, VL.vLst, VL.vTup, VL.lstRv, VL.gridChild, VL.isFlat, VL.dsOf, VL.alOf, VL.mkL, VL.gCat, VL.gCatT, VL.gCatS, VL.gIx, VL.gIxA, VL.atD, VL.gEq, VL.gIsN, VL.gIsB, VL.gIsi, VL.isiD, VL.vAnd, VL.vOr, VL.vNot, VL.truD, VL.tNot_, VL.tAnd_, VL.tOr_, VL.vNeg, VL.vCallF, VL.frRv, VL.vFor, VL.loopV, VL.gN, VL.iRange1, VL.upTo, VL.rngOk, VL.gStr, VL.gStrC, VL.gIntA, VL.vSplit, VL.vJoin, VL.itemsOf, VL.gTuple, VL.gList, VL.vApp, VL.chg, VL.notIn, VL.gIxK, VL.gInK, VL.lookD, VL.vAug, vTry, xSet, xCall, h, hn]) ?_
      exact En.is (by (simp [VL.vDef, VL.env0, VL.vSeq, VL.vSet, VL.put, VL.frz, VL.thaw, VL.vName, VL.nrm, VL.noMut, VL.noMutL, VL.v2, VL.v1, VL.vC, VL.gIC, VL.gI, VL.gAdd, VL.gMul, VL.cMul, VL.vCons, VL.vCall, VL.g1, VL.gInt, VL.gLen, VL.gAbs, VL.vRet, VL.vRetName, VL.vIfS, VL.tB_, VL.tV, VL.vLst, VL.vTup, VL.lstRv, VL.gridChild, VL.isFlat, VL.dsOf, VL.alOf, VL.mkL, VL.gCat, VL.gCatT, VL.gCatS, VL.gIx, VL.gIxA, VL.atD, VL.gEq, VL.gIsN, VL.gIsB, VL.gIsi, VL.isiD, VL.vAnd, VL.vOr, VL.vNot, VL.truD, VL.tNot_, VL.tAnd_, VL.tOr_, VL.vNeg, VL.vCallF, VL.frRv, VL.vFor, VL.loopV, VL.gN, VL.iRange1, VL.upTo, VL.rngOk, VL.vComp, VL.compV, VL.compRv, VL.wipeE, VL.iSeq, VL.itemsD, VL.gStr, VL.gStrC, VL.gIntA, VL.vSplit, VL.vJoin, VL.itemsOf, VL.gTuple, VL.gList, VL.vApp, VL.chg, VL.notIn, VL.gIxK, VL.gInK, VL.lookD, VL.vAug] <;> first | exact rfl | exact ⟨rfl, rfl⟩ | exact ⟨rfl, rfl, rfl⟩)) ⟨_, rfl⟩
    | false =>
      refine En.seq (e := [some (0, .str t), some (l, d), none]) (by simp [VL.vDef, VL.env0, VL.vSeq, VL.vSet, VL.put, VL.frz, VL.thaw, VL.vName, VL.nrm, VL.noMut, VL.noMutL, VL.v2, VL.v1, VL.vC, VL.gIC, VL.gI, VL.gAdd, VL.gMul, VL.cMul, VL.vCons, VL.vCall, VL.g1, VL.gInt, VL.gLen, VL.gAbs, VL.vRet, VL.vRetName, VL.vIfS, VL.tB_, VL.tV, VL.vLst, VL.vTup, VL.lstRv, VL.gridChild, VL.isFlat, VL.dsOf, VL.alOf, VL.mkL, VL.gCat, VL.gCatT, VL.gCatS, VL.gIx, VL.gIxA, VL.atD, VL.gEq, VL.gIsN, VL.gIsB, VL.gIsi, VL.isiD, VL.vAnd, VL.vOr, VL.vNot, VL.truD, VL.tNot_, VL.tAnd_, VL.tOr_, VL.vNeg, VL.vCallF, VL.frRv, VL.vFor, VL.loopV, VL.gN, VL.iRange1, VL.upTo, VL.rngOk, VL.gStr, VL.gStrC, VL.gIntA, VL.vSplit, VL.vJoin, VL.itemsOf, VL.gTuple, VL.gList, VL.vApp, VL.chg, VL.notIn, VL.gIxK, VL.gInK, VL.lookD, VL.vAug, vTry, xSet, xCall, h, hn]) ?_
      exact En.is (by (simp [VL.vDef, VL.env0, VL.vSeq, VL.vSet, VL.put, VL.frz, VL.thaw, VL.vName, VL.nrm, VL.noMut, VL.noMutL, VL.v2, VL.v1, VL.vC, VL.gIC, VL.gI, VL.gAdd, VL.gMul, VL.cMul, VL.vCons, VL.vCall, VL.g1, VL.gInt, VL.gLen, VL.gAbs, VL.vRet, VL.vRetName, VL.vIfS, VL.tB_, VL.tV, VL.vLst, VL.vTup, VL.lstRv, VL.gridChild, VL.isFlat, VL.dsOf, VL.alOf, VL.mkL, VL.gCat, VL.gCatT, VL.gCatS, VL.gIx, VL.gIxA, VL.atD, VL.gEq, VL.gIsN, VL.gIsB, VL.gIsi, VL.isiD, VL.vAnd, VL.vOr, VL.vNot, VL.truD, VL.tNot_, VL.tAnd_, VL.tOr_, VL.vNeg, VL.vCallF, VL.frRv, VL.vFor, VL.loopV, VL.gN, VL.iRange1, VL.upTo, VL.rngOk, VL.vComp, VL.compV, VL.compRv, VL.wipeE, VL.iSeq, VL.itemsD, VL.gStr, VL.gStrC, VL.gIntA, VL.vSplit, VL.vJoin, VL.itemsOf, VL.gTuple, VL.gList, VL.vApp, VL.chg, VL.notIn, VL.gIxK, VL.gInK, VL.lookD, VL.vAug] <;> first | exact rfl | exact ⟨rfl, rfl⟩ | exact ⟨rfl, rfl, rfl⟩)) ⟨_, rfl⟩
  obtain ⟨l', h'⟩ := main
  exact ⟨l', def_ret h'⟩
theorem e_read_bad {t : Str} {k : Int} (h : c_read_run [.str t] = .ex 2 [("line", .int k)]) : ∃ l', c_law_read [.str t] = .ok (.tup [.str "refused", .int k]) l' := by
  have main : En (b_law_read [some (0, .str t), none, none]) fun r => ∃ l', r = .ret (.tup [.str "refused", .int k]) l' := by
    unfold b_law_read
    refine En.seq (by (simp [VL.vDef, VL.env0, VL.vSeq, VL.vSet, VL.put, VL.frz, VL.thaw, VL.vName, VL.nrm, VL.noMut, VL.noMutL, VL.v2, VL.v1, VL.vC, VL.gIC, VL.gI, VL.gAdd, VL.gMul, VL.cMul, VL.vCons, VL.vCall, VL.g1, VL.gInt, VL.gLen, VL.gAbs, VL.vRet, VL.vRetName, VL.vIfS, VL.tB_, VL.tV, VL.vLst, VL.vTup, VL.lstRv, VL.gridChild, VL.isFlat, VL.dsOf, VL.alOf, VL.mkL, VL.gCat, VL.gCatT, VL.gCatS, VL.gIx, VL.gIxA, VL.atD, VL.gEq, VL.gIsN, VL.gIsB, VL.gIsi, VL.isiD, VL.vAnd, VL.vOr, VL.vNot, VL.truD, VL.tNot_, VL.tAnd_, VL.tOr_, VL.vNeg, VL.vCallF, VL.frRv, VL.vFor, VL.loopV, VL.gN, VL.iRange1, VL.upTo, VL.rngOk, VL.vComp, VL.compV, VL.compRv, VL.wipeE, VL.iSeq, VL.itemsD, VL.gStr, VL.gStrC, VL.gIntA, VL.vSplit, VL.vJoin, VL.itemsOf, VL.gTuple, VL.gList, VL.vApp, VL.chg, VL.notIn, VL.gIxK, VL.gInK, VL.lookD, VL.vAug] <;> first | exact rfl | exact ⟨rfl, rfl⟩ | exact ⟨rfl, rfl, rfl⟩)) ?_
    have hb : row_BadText.lookup 2 = some true := rfl
    refine En.seq (e := [some (0, .str t), some (2, .tup [.str "refused", .int k]), none]) (by simp [VL.vDef, VL.env0, VL.vSeq, VL.vSet, VL.put, VL.frz, VL.thaw, VL.vName, VL.nrm, VL.noMut, VL.noMutL, VL.v2, VL.v1, VL.vC, VL.gIC, VL.gI, VL.gAdd, VL.gMul, VL.cMul, VL.vCons, VL.vCall, VL.g1, VL.gInt, VL.gLen, VL.gAbs, VL.vRet, VL.vRetName, VL.vIfS, VL.tB_, VL.tV, VL.vLst, VL.vTup, VL.lstRv, VL.gridChild, VL.isFlat, VL.dsOf, VL.alOf, VL.mkL, VL.gCat, VL.gCatT, VL.gCatS, VL.gIx, VL.gIxA, VL.atD, VL.gEq, VL.gIsN, VL.gIsB, VL.gIsi, VL.isiD, VL.vAnd, VL.vOr, VL.vNot, VL.truD, VL.tNot_, VL.tAnd_, VL.tOr_, VL.vNeg, VL.vCallF, VL.frRv, VL.vFor, VL.loopV, VL.gN, VL.iRange1, VL.upTo, VL.rngOk, VL.gStr, VL.gStrC, VL.gIntA, VL.vSplit, VL.vJoin, VL.itemsOf, VL.gTuple, VL.gList, VL.vApp, VL.chg, VL.notIn, VL.gIxK, VL.gInK, VL.lookD, VL.vAug, vTry, xSet, xCall, h, catchS, hb, vXf, exitH, clean, noExc, noExcL]) ?_
    exact En.is (by (simp [VL.vDef, VL.env0, VL.vSeq, VL.vSet, VL.put, VL.frz, VL.thaw, VL.vName, VL.nrm, VL.noMut, VL.noMutL, VL.v2, VL.v1, VL.vC, VL.gIC, VL.gI, VL.gAdd, VL.gMul, VL.cMul, VL.vCons, VL.vCall, VL.g1, VL.gInt, VL.gLen, VL.gAbs, VL.vRet, VL.vRetName, VL.vIfS, VL.tB_, VL.tV, VL.vLst, VL.vTup, VL.lstRv, VL.gridChild, VL.isFlat, VL.dsOf, VL.alOf, VL.mkL, VL.gCat, VL.gCatT, VL.gCatS, VL.gIx, VL.gIxA, VL.atD, VL.gEq, VL.gIsN, VL.gIsB, VL.gIsi, VL.isiD, VL.vAnd, VL.vOr, VL.vNot, VL.truD, VL.tNot_, VL.tAnd_, VL.tOr_, VL.vNeg, VL.vCallF, VL.frRv, VL.vFor, VL.loopV, VL.gN, VL.iRange1, VL.upTo, VL.rngOk, VL.vComp, VL.compV, VL.compRv, VL.wipeE, VL.iSeq, VL.itemsD, VL.gStr, VL.gStrC, VL.gIntA, VL.vSplit, VL.vJoin, VL.itemsOf, VL.gTuple, VL.gList, VL.vApp, VL.chg, VL.notIn, VL.gIxK, VL.gInK, VL.lookD, VL.vAug] <;> first | exact rfl | exact ⟨rfl, rfl⟩ | exact ⟨rfl, rfl, rfl⟩)) ⟨_, rfl⟩
  obtain ⟨l', h'⟩ := main
  exact ⟨l', def_ret h'⟩
theorem e_pure_bad {t : Str} {k : Int} (h : c_read_run [.str t] = .ex 2 [("line", .int k)]) : ∃ l', c_law_pure [.str t] = .ok (.bl true) l' := by
  have main : En (b_law_pure [some (0, .str t), none, none]) fun r => ∃ l', r = .ret (.bl true) l' := by
    unfold b_law_pure
    refine En.seq (by (simp [VL.vDef, VL.env0, VL.vSeq, VL.vSet, VL.put, VL.frz, VL.thaw, VL.vName, VL.nrm, VL.noMut, VL.noMutL, VL.v2, VL.v1, VL.vC, VL.gIC, VL.gI, VL.gAdd, VL.gMul, VL.cMul, VL.vCons, VL.vCall, VL.g1, VL.gInt, VL.gLen, VL.gAbs, VL.vRet, VL.vRetName, VL.vIfS, VL.tB_, VL.tV, VL.vLst, VL.vTup, VL.lstRv, VL.gridChild, VL.isFlat, VL.dsOf, VL.alOf, VL.mkL, VL.gCat, VL.gCatT, VL.gCatS, VL.gIx, VL.gIxA, VL.atD, VL.gEq, VL.gIsN, VL.gIsB, VL.gIsi, VL.isiD, VL.vAnd, VL.vOr, VL.vNot, VL.truD, VL.tNot_, VL.tAnd_, VL.tOr_, VL.vNeg, VL.vCallF, VL.frRv, VL.vFor, VL.loopV, VL.gN, VL.iRange1, VL.upTo, VL.rngOk, VL.vComp, VL.compV, VL.compRv, VL.wipeE, VL.iSeq, VL.itemsD, VL.gStr, VL.gStrC, VL.gIntA, VL.vSplit, VL.vJoin, VL.itemsOf, VL.gTuple, VL.gList, VL.vApp, VL.chg, VL.notIn, VL.gIxK, VL.gInK, VL.lookD, VL.vAug] <;> first | exact rfl | exact ⟨rfl, rfl⟩ | exact ⟨rfl, rfl, rfl⟩)) ?_
    have hb : row_FullhandsError.lookup 2 = some true := rfl
    have h1 : row_ValueError.lookup 2 = some true := rfl
    have h2 : row_BadText.lookup 2 = some true := rfl
    have h3 : rowT_Attled_Bading_Badine_Badads_BadLot_Badram_Bading_Badble_Badtor_Canove_Impble_InUUse_NoSuch_Notore_Notcal_Notedo_Notndo_Tooeat_Wround.lookup 2 = some false := rfl
    refine En.seq (e := [some (0, .str t), some (2, .bl true), none]) (by simp [VL.vDef, VL.env0, VL.vSeq, VL.vSet, VL.put, VL.frz, VL.thaw, VL.vName, VL.nrm, VL.noMut, VL.noMutL, VL.v2, VL.v1, VL.vC, VL.gIC, VL.gI, VL.gAdd, VL.gMul, VL.cMul, VL.vCons, VL.vCall, VL.g1, VL.gInt, VL.gLen, VL.gAbs, VL.vRet, VL.vRetName, VL.vIfS, VL.tB_, VL.tV, VL.vLst, VL.vTup, VL.lstRv, VL.gridChild, VL.isFlat, VL.dsOf, VL.alOf, VL.mkL, VL.gCat, VL.gCatT, VL.gCatS, VL.gIx, VL.gIxA, VL.atD, VL.gEq, VL.gIsN, VL.gIsB, VL.gIsi, VL.isiD, VL.vAnd, VL.vOr, VL.vNot, VL.truD, VL.tNot_, VL.tAnd_, VL.tOr_, VL.vNeg, VL.vCallF, VL.frRv, VL.vFor, VL.loopV, VL.gN, VL.iRange1, VL.upTo, VL.rngOk, VL.gStr, VL.gStrC, VL.gIntA, VL.vSplit, VL.vJoin, VL.itemsOf, VL.gTuple, VL.gList, VL.vApp, VL.chg, VL.notIn, VL.gIxK, VL.gInK, VL.lookD, VL.vAug, vTry, xDrop, xCall, h, catchS, hb, h1, h2, h3, gIsE, exitH, clean, noExc, noExcL]) ?_
    exact En.is (by (simp [VL.vDef, VL.env0, VL.vSeq, VL.vSet, VL.put, VL.frz, VL.thaw, VL.vName, VL.nrm, VL.noMut, VL.noMutL, VL.v2, VL.v1, VL.vC, VL.gIC, VL.gI, VL.gAdd, VL.gMul, VL.cMul, VL.vCons, VL.vCall, VL.g1, VL.gInt, VL.gLen, VL.gAbs, VL.vRet, VL.vRetName, VL.vIfS, VL.tB_, VL.tV, VL.vLst, VL.vTup, VL.lstRv, VL.gridChild, VL.isFlat, VL.dsOf, VL.alOf, VL.mkL, VL.gCat, VL.gCatT, VL.gCatS, VL.gIx, VL.gIxA, VL.atD, VL.gEq, VL.gIsN, VL.gIsB, VL.gIsi, VL.isiD, VL.vAnd, VL.vOr, VL.vNot, VL.truD, VL.tNot_, VL.tAnd_, VL.tOr_, VL.vNeg, VL.vCallF, VL.frRv, VL.vFor, VL.loopV, VL.gN, VL.iRange1, VL.upTo, VL.rngOk, VL.vComp, VL.compV, VL.compRv, VL.wipeE, VL.iSeq, VL.itemsD, VL.gStr, VL.gStrC, VL.gIntA, VL.vSplit, VL.vJoin, VL.itemsOf, VL.gTuple, VL.gList, VL.vApp, VL.chg, VL.notIn, VL.gIxK, VL.gInK, VL.lookD, VL.vAug] <;> first | exact rfl | exact ⟨rfl, rfl⟩ | exact ⟨rfl, rfl, rfl⟩)) ⟨_, rfl⟩
  obtain ⟨l', h'⟩ := main
  exact ⟨l', def_ret h'⟩
theorem pl_mv {m : Mv} : pl 7 m.d := by
  have q : ∀ s ∈ (["enter", "pass", "swap"] : List Str), PyData.strOk s = true := by decide +kernel
  cases m <;> simp [Mv.d, pl] <;> exact q _ (by simp)
theorem pl_mvs {ms : List Mv} (h : ms.length ≤ 1000000) : pl 8 (.lst (ms.map Mv.d)) := ⟨by rw [List.length_map]; exact h, fun x hx => by obtain ⟨m, _, rfl⟩ := List.mem_map.mp hx; exact pl_mv⟩
theorem same_mvs {ms : List Mv} (h : ms.length ≤ 1000) : c_law_same 8 [.lst (ms.map Mv.d), .lst (ms.map Mv.d)] = .ok (.bl true) 2 := e_same 8 _ (pl_mvs (by omega))
theorem same_str {t : Str} (h : PyData.strOk t = true) : c_law_same 8 [.str t, .str t] = .ok (.bl true) 2 := e_same 8 _ h
/-- the slots behind the run -/
def IL (ns : List Int) (p : List D) (n : Nat) (e : Ev) : Prop := ∃ (f1 f2 : Nat) (ms : List Mv), e = [some (0, .scr ns), some (f1, .lst p), some (f2, .lst (ms.map Mv.d)), none, none, none, none, none, none, none, none, none] ∧ ms.length ≤ n ∧ ∀ m ∈ ms, m.ok
/-- .. and behind the first questions -/
def IL2 (ns : List Int) (p : List D) (e' : Ev) : Prop := ∃ (f0 f1 f2 f3 f5 : Nat) (s4 : Slot) (ms : List Mv), e' = [some (f0, .scr ns), some (f1, .lst p), some (f2, .lst (ms.map Mv.d)), some (f3, .lst ((ms.map rowOf).map rowD)), s4, some (f5, .str (textR (ms.map rowOf))), some (2, .lst (ms.map Mv.d)), none, none, none, none, none] ∧ ms.length ≤ 120 ∧ ∀ m ∈ ms, m.ok
theorem e_law_one {ns : List Int} {p : List D} {e : Ev} (hI : IL ns p 120 e) {rest : VS} {P : Rs → Prop} (k : ∀ e', IL2 ns p e' → En (rest e') P) : En ((vSeq (vSet 3 (vComp (iSeq (vName 2)) [4] (gN 4) (fun _ => some true) (vTup (vCons (vCallF c_law_words (vCons (vName 4) (fun _ => some []))) (vCons (vC (.bl true)) (fun _ => some []))))))
  (vSeq (vSet 5 (vCallF c_law_joined_rows (vCons (vName 3) (fun _ => some []))))
  (vSeq (vSet 6 (vCall (g1 gList) (vCons (vName 2) (fun _ => some []))))
  (vSeq (vIfS (tOr_ (tNot_ (tV (vCallF (c_law_same 8) (vCons (vCallF c_run_text (vCons (vCall (g1 gTuple) (vCons (vName 2) (fun _ => some []))) (fun _ => some []))) (vCons (vName 5) (fun _ => some [])))))) (tNot_ (tV (vCallF (c_law_same 8) (vCons (vCallF c_run_text (vCons (vName 6) (fun _ => some []))) (vCons (vName 5) (fun _ => some []))))))) (vRet (vC (.bl false))) ((fun e => .nx e)))
  (vSeq (vIfS (tNot_ (tV (vCallF (c_law_same 8) (vCons (vName 6) (vCons (vName 2) (fun _ => some [])))))) (vRet (vC (.bl false))) ((fun e => .nx e)))
  rest))))) e) P := by
  obtain ⟨f1, f2, ms, rfl, hl, hok⟩ := hI
  have hl2 : ms.length ≤ 16777216 := by omega
  -- rows
  have hc : ∃ f3 al, vComp (iSeq (vName 2)) [4] (gN 4) (fun _ => some true) (vTup (vCons (vCallF c_law_words (vCons (vName 4) (fun _ => some []))) (vCons (vC (.bl true)) (fun _ => some [])))) [some (0, .scr ns), some (f1, .lst p), some (f2, .lst (ms.map Mv.d)), none, none, none, none, none, none, none, none, none] = some ⟨.lst ((ms.map rowOf).map rowD), f3, al⟩ ∧ (al = [] ∨ al = List.range 12) := by
    rw [comp_mapX (al := [2]) (xs := ms) Mv.d (fun m => ⟨rowD (rowOf m), 0, []⟩) (by simp [VL.vDef, VL.env0, VL.vSeq, VL.vSet, VL.put, VL.frz, VL.thaw, VL.vName, VL.nrm, VL.noMut, VL.noMutL, VL.v2, VL.v1, VL.vC, VL.gIC, VL.gI, VL.gAdd, VL.gMul, VL.cMul, VL.vCons, VL.vCall, VL.g1, VL.gInt, VL.gLen, VL.gAbs, VL.vRet, VL.vRetName, VL.vIfS, VL.tB_, VL.tV, VL.vLst, VL.vTup, VL.lstRv, VL.gridChild, VL.isFlat, VL.dsOf, VL.alOf, VL.mkL, VL.gCat, VL.gCatT, VL.gCatS, VL.gIx, VL.gIxA, VL.atD, VL.gEq, VL.gIsN, VL.gIsB, VL.gIsi, VL.isiD, VL.vAnd, VL.vOr, VL.vNot, VL.truD, VL.tNot_, VL.tAnd_, VL.tOr_, VL.vNeg, VL.vCallF, VL.frRv, VL.vFor, VL.loopV, VL.gN, VL.iRange1, VL.upTo, VL.rngOk, VL.vComp, VL.compV, VL.compRv, VL.wipeE, VL.iSeq, VL.itemsD, VL.gStr, VL.gStrC, VL.gIntA, VL.vSplit, VL.vJoin, VL.itemsOf, VL.gTuple, VL.gList, VL.vApp, VL.chg, VL.notIn, VL.gIxK, VL.gInK, VL.lookD, VL.vAug, hl2]) (fun m hm => ?_)]
    · have hd : dsOf (ms.map fun m => (⟨rowD (rowOf m), 0, []⟩ : Rv)) = (ms.map rowOf).map rowD := by rw [dsOf_map, List.map_map]; rfl
      unfold compRv
      rw [hd]
      by_cases hq : (ms.map fun m => (⟨rowD (rowOf m), 0, []⟩ : Rv)).all gridChild = true
      · rw [if_pos hq]; exact ⟨_, _, rfl, .inl rfl⟩
      · rw [if_neg hq]; exact ⟨_, _, rfl, .inr rfl⟩
    · have ew := e_words (hok m hm)
      have nm_ : noMut m.d = true := by cases m <;> rfl
      refine ⟨[some (0, .scr ns), some (f1, .lst p), some (0, .lst (ms.map Mv.d)), none, some (0, m.d), none, none, none, none, none, none, none], by simp [VL.vDef, VL.env0, VL.vSeq, VL.vSet, VL.put, VL.frz, VL.thaw, VL.vName, VL.nrm, VL.noMut, VL.noMutL, VL.v2, VL.v1, VL.vC, VL.gIC, VL.gI, VL.gAdd, VL.gMul, VL.cMul, VL.vCons, VL.vCall, VL.g1, VL.gInt, VL.gLen, VL.gAbs, VL.vRet, VL.vRetName, VL.vIfS, VL.tB_, VL.tV, VL.vLst, VL.vTup, VL.lstRv, VL.gridChild, VL.isFlat, VL.dsOf, VL.alOf, VL.mkL, VL.gCat, VL.gCatT, VL.gCatS, VL.gIx, VL.gIxA, VL.atD, VL.gEq, VL.gIsN, VL.gIsB, VL.gIsi, VL.isiD, VL.vAnd, VL.vOr, VL.vNot, VL.truD, VL.tNot_, VL.tAnd_, VL.tOr_, VL.vNeg, VL.vCallF, VL.frRv, VL.vFor, VL.loopV, VL.gN, VL.iRange1, VL.upTo, VL.rngOk, VL.vComp, VL.compV, VL.compRv, VL.wipeE, VL.iSeq, VL.itemsD, VL.gStr, VL.gStrC, VL.gIntA, VL.vSplit, VL.vJoin, VL.itemsOf, VL.gTuple, VL.gList, VL.vApp, VL.chg, VL.notIn, VL.gIxK, VL.gInK, VL.lookD, VL.vAug], rfl, ?_⟩
      simp [VL.vDef, VL.env0, VL.vSeq, VL.vSet, VL.put, VL.frz, VL.thaw, VL.vName, VL.nrm, VL.noMut, VL.noMutL, VL.v2, VL.v1, VL.vC, VL.gIC, VL.gI, VL.gAdd, VL.gMul, VL.cMul, VL.vCons, VL.vCall, VL.g1, VL.gInt, VL.gLen, VL.gAbs, VL.vRet, VL.vRetName, VL.vIfS, VL.tB_, VL.tV, VL.vLst, VL.vTup, VL.lstRv, VL.gridChild, VL.isFlat, VL.dsOf, VL.alOf, VL.mkL, VL.gCat, VL.gCatT, VL.gCatS, VL.gIx, VL.gIxA, VL.atD, VL.gEq, VL.gIsN, VL.gIsB, VL.gIsi, VL.isiD, VL.vAnd, VL.vOr, VL.vNot, VL.truD, VL.tNot_, VL.tAnd_, VL.tOr_, VL.vNeg, VL.vCallF, VL.frRv, VL.vFor, VL.loopV, VL.gN, VL.iRange1, VL.upTo, VL.rngOk, VL.gStr, VL.gStrC, VL.gIntA, VL.vSplit, VL.vJoin, VL.itemsOf, VL.gTuple, VL.gList, VL.vApp, VL.chg, VL.notIn, VL.gIxK, VL.gInK, VL.lookD, VL.vAug, nm_, ew, rowD, rowOf]
  obtain ⟨f3, al, hc, hal⟩ := hc
  have hr : ∀ r ∈ ms.map rowOf, rOk r := fun r hr => by
    obtain ⟨m, hm, rfl⟩ := List.mem_map.mp hr
    exact rowOf_ok (hok m hm)
  have hrl : (ms.map rowOf).length ≤ 500 := by rw [List.length_map]; omega
  obtain ⟨jd, jl, ej, rfl⟩ := e_joined hrl hr
  have tk := text_ok hr
  have rt1 := e_run_text (by omega : ms.length ≤ 500) hok (.inr rfl)
  have rt2 := e_run_text (by omega : ms.length ≤ 500) hok (.inl rfl)
  have ss := same_str tk
  have sm_ := same_mvs (ms := ms) (by omega)
  have nmv := noMutL_mv ms
  have st : ∃ f0 f1' f2', vSet 3 (vComp (iSeq (vName 2)) [4] (gN 4) (fun _ => some true) (vTup (vCons (vCallF c_law_words (vCons (vName 4) (fun _ => some []))) (vCons (vC (.bl true)) (fun _ => some []))))) [some (0, .scr ns), some (f1, .lst p), some (f2, .lst (ms.map Mv.d)), none, none, none, none, none, none, none, none, none] = .nx [some (f0, .scr ns), some (f1', .lst p), some (f2', .lst (ms.map Mv.d)), some (f3, .lst ((ms.map rowOf).map rowD)), none, none, none, none, none, none, none, none] := by
    rcases hal with rfl | rfl
    · exact ⟨_, _, _, by simp [VL.vDef, VL.env0, VL.vSeq, VL.vSet, VL.put, VL.frz, VL.thaw, VL.vName, VL.nrm, VL.noMut, VL.noMutL, VL.v2, VL.v1, VL.vC, VL.gIC, VL.gI, VL.gAdd, VL.gMul, VL.cMul, VL.vCons, VL.vCall, VL.g1, VL.gInt, VL.gLen, VL.gAbs, VL.vRet, VL.vRetName, VL.vIfS, VL.tB_, VL.tV, VL.vLst, VL.vTup, VL.lstRv, VL.gridChild, VL.isFlat, VL.dsOf, VL.alOf, VL.mkL, VL.gCat, VL.gCatT, VL.gCatS, VL.gIx, VL.gIxA, VL.atD, VL.gEq, VL.gIsN, VL.gIsB, VL.gIsi, VL.isiD, VL.vAnd, VL.vOr, VL.vNot, VL.truD, VL.tNot_, VL.tAnd_, VL.tOr_, VL.vNeg, VL.vCallF, VL.frRv, VL.vFor, VL.loopV, VL.gN, VL.iRange1, VL.upTo, VL.rngOk, VL.gStr, VL.gStrC, VL.gIntA, VL.vSplit, VL.vJoin, VL.itemsOf, VL.gTuple, VL.gList, VL.vApp, VL.chg, VL.notIn, VL.gIxK, VL.gInK, VL.lookD, VL.vAug, hc]; exact ⟨rfl, rfl, rfl⟩⟩
    · have hrg : List.range 12 = [0, 1, 2, 3, 4, 5, 6, 7, 8, 9, 10, 11] := by decide
      rw [hrg] at hc
      exact ⟨_, _, _, by simp [VL.vDef, VL.env0, VL.vSeq, VL.vSet, VL.put, VL.frz, VL.thaw, VL.vName, VL.nrm, VL.noMut, VL.noMutL, VL.v2, VL.v1, VL.vC, VL.gIC, VL.gI, VL.gAdd, VL.gMul, VL.cMul, VL.vCons, VL.vCall, VL.g1, VL.gInt, VL.gLen, VL.gAbs, VL.vRet, VL.vRetName, VL.vIfS, VL.tB_, VL.tV, VL.vLst, VL.vTup, VL.lstRv, VL.gridChild, VL.isFlat, VL.dsOf, VL.alOf, VL.mkL, VL.gCat, VL.gCatT, VL.gCatS, VL.gIx, VL.gIxA, VL.atD, VL.gEq, VL.gIsN, VL.gIsB, VL.gIsi, VL.isiD, VL.vAnd, VL.vOr, VL.vNot, VL.truD, VL.tNot_, VL.tAnd_, VL.tOr_, VL.vNeg, VL.vCallF, VL.frRv, VL.vFor, VL.loopV, VL.gN, VL.iRange1, VL.upTo, VL.rngOk, VL.gStr, VL.gStrC, VL.gIntA, VL.vSplit, VL.vJoin, VL.itemsOf, VL.gTuple, VL.gList, VL.vApp, VL.chg, VL.notIn, VL.gIxK, VL.gInK, VL.lookD, VL.vAug, hc]; exact ⟨rfl, rfl, rfl⟩⟩
  obtain ⟨f0, f1', f2', st⟩ := st
  generalize hR : (ms.map rowOf).map rowD = R at *
  generalize hT : textR (ms.map rowOf) = T at *
  generalize hM : ms.map Mv.d = M at *
  have hlM : M.length ≤ 16777216 := by rw [← hM, List.length_map]; exact hl2
  refine En.seq st ?_
  refine En.seq (e := [some (f0, .scr ns), some (f1', .lst p), some (f2', .lst M), some (f3, .lst R), none, some (2, .str T), none, none, none, none, none, none]) (by simp [VL.vDef, VL.env0, VL.vSeq, VL.vSet, VL.put, VL.frz, VL.thaw, VL.vName, VL.nrm, VL.noMut, VL.noMutL, VL.v2, VL.v1, VL.vC, VL.gIC, VL.gI, VL.gAdd, VL.gMul, VL.cMul, VL.vCons, VL.vCall, VL.g1, VL.gInt, VL.gLen, VL.gAbs, VL.vRet, VL.vRetName, VL.vIfS, VL.tB_, VL.tV, VL.vLst, VL.vTup, VL.lstRv, VL.gridChild, VL.isFlat, VL.dsOf, VL.alOf, VL.mkL, VL.gCat, VL.gCatT, VL.gCatS, VL.gIx, VL.gIxA, VL.atD, VL.gEq, VL.gIsN, VL.gIsB, VL.gIsi, VL.isiD, VL.vAnd, VL.vOr, VL.vNot, VL.truD, VL.tNot_, VL.tAnd_, VL.tOr_, VL.vNeg, VL.vCallF, VL.frRv, VL.vFor, VL.loopV, VL.gN, VL.iRange1, VL.upTo, VL.rngOk, VL.gStr, VL.gStrC, VL.gIntA, VL.vSplit, VL.vJoin, VL.itemsOf, VL.gTuple, VL.gList, VL.vApp, VL.chg, VL.notIn, VL.gIxK, VL.gInK, VL.lookD, VL.vAug, ej]) ?_
  refine En.seq (e := [some (f0, .scr ns), some (f1', .lst p), some (f2', .lst M), some (f3, .lst R), none, some (2, .str T), some (2, .lst M), none, none, none, none, none]) (by simp [VL.vDef, VL.env0, VL.vSeq, VL.vSet, VL.put, VL.frz, VL.thaw, VL.vName, VL.nrm, VL.noMut, VL.noMutL, VL.v2, VL.v1, VL.vC, VL.gIC, VL.gI, VL.gAdd, VL.gMul, VL.cMul, VL.vCons, VL.vCall, VL.g1, VL.gInt, VL.gLen, VL.gAbs, VL.vRet, VL.vRetName, VL.vIfS, VL.tB_, VL.tV, VL.vLst, VL.vTup, VL.lstRv, VL.gridChild, VL.isFlat, VL.dsOf, VL.alOf, VL.mkL, VL.gCat, VL.gCatT, VL.gCatS, VL.gIx, VL.gIxA, VL.atD, VL.gEq, VL.gIsN, VL.gIsB, VL.gIsi, VL.isiD, VL.vAnd, VL.vOr, VL.vNot, VL.truD, VL.tNot_, VL.tAnd_, VL.tOr_, VL.vNeg, VL.vCallF, VL.frRv, VL.vFor, VL.loopV, VL.gN, VL.iRange1, VL.upTo, VL.rngOk, VL.gStr, VL.gStrC, VL.gIntA, VL.vSplit, VL.vJoin, VL.itemsOf, VL.gTuple, VL.gList, VL.vApp, VL.chg, VL.notIn, VL.gIxK, VL.gInK, VL.lookD, VL.vAug, nmv, hlM]) ?_
  refine En.retIf false (by simp [VL.vDef, VL.env0, VL.vSeq, VL.vSet, VL.put, VL.frz, VL.thaw, VL.vName, VL.nrm, VL.noMut, VL.noMutL, VL.v2, VL.v1, VL.vC, VL.gIC, VL.gI, VL.gAdd, VL.gMul, VL.cMul, VL.vCons, VL.vCall, VL.g1, VL.gInt, VL.gLen, VL.gAbs, VL.vRet, VL.vRetName, VL.vIfS, VL.tB_, VL.tV, VL.vLst, VL.vTup, VL.lstRv, VL.gridChild, VL.isFlat, VL.dsOf, VL.alOf, VL.mkL, VL.gCat, VL.gCatT, VL.gCatS, VL.gIx, VL.gIxA, VL.atD, VL.gEq, VL.gIsN, VL.gIsB, VL.gIsi, VL.isiD, VL.vAnd, VL.vOr, VL.vNot, VL.truD, VL.tNot_, VL.tAnd_, VL.tOr_, VL.vNeg, VL.vCallF, VL.frRv, VL.vFor, VL.loopV, VL.gN, VL.iRange1, VL.upTo, VL.rngOk, VL.gStr, VL.gStrC, VL.gIntA, VL.vSplit, VL.vJoin, VL.itemsOf, VL.gTuple, VL.gList, VL.vApp, VL.chg, VL.notIn, VL.gIxK, VL.gInK, VL.lookD, VL.vAug, nmv, hlM, rt1, rt2, ss]) (fun z => by cases z) (fun _ => En.skip ?_)
  refine En.retIf false (by simp [VL.vDef, VL.env0, VL.vSeq, VL.vSet, VL.put, VL.frz, VL.thaw, VL.vName, VL.nrm, VL.noMut, VL.noMutL, VL.v2, VL.v1, VL.vC, VL.gIC, VL.gI, VL.gAdd, VL.gMul, VL.cMul, VL.vCons, VL.vCall, VL.g1, VL.gInt, VL.gLen, VL.gAbs, VL.vRet, VL.vRetName, VL.vIfS, VL.tB_, VL.tV, VL.vLst, VL.vTup, VL.lstRv, VL.gridChild, VL.isFlat, VL.dsOf, VL.alOf, VL.mkL, VL.gCat, VL.gCatT, VL.gCatS, VL.gIx, VL.gIxA, VL.atD, VL.gEq, VL.gIsN, VL.gIsB, VL.gIsi, VL.isiD, VL.vAnd, VL.vOr, VL.vNot, VL.truD, VL.tNot_, VL.tAnd_, VL.tOr_, VL.vNeg, VL.vCallF, VL.frRv, VL.vFor, VL.loopV, VL.gN, VL.iRange1, VL.upTo, VL.rngOk, VL.gStr, VL.gStrC, VL.gIntA, VL.vSplit, VL.vJoin, VL.itemsOf, VL.gTuple, VL.gList, VL.vApp, VL.chg, VL.notIn, VL.gIxK, VL.gInK, VL.lookD, VL.vAug, sm_]) (fun z => by cases z) (fun _ => En.skip ?_)
  exact k _ ⟨f0, f1', f2', f3, 2, none, ms, by rw [hR, hT, hM], hl, hok⟩

/-- behind what is appended -/
def IL3 (ns : List Int) (p : List D) (e' : Ev) : Prop := ∃ (f0 f1 f2 f3 f5 : Nat) (s4 s6 s7 s8 : Slot) (ms : List Mv), e' = [some (f0, .scr ns), some (f1, .lst p), some (f2, .lst (ms.map Mv.d)), some (f3, .lst ((ms.map rowOf).map rowD)), s4, some (f5, .str (textR (ms.map rowOf))), s6, s7, s8, none, none, none] ∧ ms.length ≤ 120 ∧ ∀ m ∈ ms, m.ok
theorem e_law_two {ns : List Int} {p : List D} {e : Ev} (hI : IL2 ns p e) {rest : VS} {P : Rs → Prop} (k : ∀ e', IL3 ns p e' → En (rest e') P) : En ((vSeq (vApp 6 (vTup (vCons (vC (.str "swap")) (vCons (vC (.int 7)) (vCons (vC (.int 0)) (vCons (vC (.int 99)) (vCons (vC (.int 10)) (fun _ => some []))))))))
  (vSeq (vSet 7 (vCallF c_law_joined_rows (vCons (v2 gAdd (vName 3) (vLst (vCons (vTup (vCons (vLst (vCons (vC (.str "swap")) (vCons (vC (.str "7")) (vCons (vC (.str "0")) (vCons (vC (.str "99")) (vCons (vC (.str "10")) (fun _ => some []))))))) (vCons (vC (.bl true)) (fun _ => some [])))) (fun _ => some [])))) (fun _ => some []))))
  (vSeq (vIfS (tOr_ (tNot_ (tV (vCallF (c_law_same 8) (vCons (vCallF c_run_text (vCons (vName 6) (fun _ => some []))) (vCons (vName 7) (fun _ => some [])))))) (tNot_ (tV (vCallF (c_law_same 8) (vCons (vCallF c_read_run (vCons (vName 7) (fun _ => some []))) (vCons (vName 6) (fun _ => some []))))))) (vRet (vC (.bl false))) ((fun e => .nx e)))
  (vSeq (xSet 8 (xCall c_read_run (vCons (vName 5) (fun _ => some []))))
  (vSeq (vIfS (tNot_ (tV (vCallF (c_law_same 8) (vCons (vName 8) (vCons (vName 2) (fun _ => some [])))))) (vRet (vC (.bl false))) ((fun e => .nx e)))
  (vSeq (vApp 8 (vTup (vCons (vC (.str "enter")) (vCons (vC (.int 1)) (fun _ => some [])))))
  rest)))))) e) P := by
  obtain ⟨f0, f1, f2, f3, f5, s4, ms, rfl, hl, hok⟩ := hI
  have hm7 : Mv.ok (.swap 7 0 99 10) := ⟨⟨by decide, by decide⟩, ⟨by decide, by decide⟩, ⟨by decide, by decide⟩, ⟨by decide, by decide⟩⟩
  have hok2 : ∀ m ∈ ms ++ [.swap 7 0 99 10], m.ok := fun m hm => by
    rcases List.mem_append.mp hm with hm | hm
    · exact hok m hm
    · rw [List.mem_singleton] at hm; subst hm; exact hm7
  have hl2 : (ms ++ [Mv.swap 7 0 99 10]).length ≤ 500 := by simp only [List.length_append, List.length_cons, List.length_nil]; omega
  have e2 : (ms ++ [Mv.swap 7 0 99 10]).map Mv.d = ms.map Mv.d ++ [.tup [.str "swap", .int 7, .int 0, .int 99, .int 10]] := by rw [List.map_append]; rfl
  have rD : rowD (rowOf (.swap 7 0 99 10)) = .tup [.lst [.str "swap", .str "7", .str "0", .str "99", .str "10"], .bl true] := by kernel_rfl
  have e3 : ((ms ++ [Mv.swap 7 0 99 10]).map rowOf).map rowD = (ms.map rowOf).map rowD ++ [.tup [.lst [.str "swap", .str "7", .str "0", .str "99", .str "10"], .bl true]] := by rw [List.map_append, List.map_append, ← rD]; rfl
  have hr2 : ∀ r ∈ (ms ++ [Mv.swap 7 0 99 10]).map rowOf, rOk r := fun r hr => by
    obtain ⟨m, hm, rfl⟩ := List.mem_map.mp hr
    exact rowOf_ok (hok2 m hm)
  obtain ⟨jd, jl, ej, hjd⟩ := e_joined (rs := (ms ++ [Mv.swap 7 0 99 10]).map rowOf) (by rw [List.length_map]; exact hl2) hr2
  rw [e3] at ej
  have tk := text_ok hr2
  have rt := e_run_text hl2 hok2 (.inl rfl)
  rw [e2] at rt
  have ss := same_str tk
  obtain ⟨rd, rl, err, hrd, _⟩ := e_rr_good hl2 hok2
  have sm1 := same_mvs (ms := ms ++ [Mv.swap 7 0 99 10]) (by omega)
  rw [e2] at hrd sm1
  obtain ⟨gd, gl, egr, hgd, hgl⟩ := e_rr_good (ms := ms) (by omega) hok
  have sm0 := same_mvs (ms := ms) (by omega)
  have nmv := noMutL_mv ms
  have hlM : (ms.map Mv.d).length < 16777216 := by rw [List.length_map]; omega
  have hlR : ((ms.map rowOf).map rowD).length ≤ 16777215 := by rw [List.length_map, List.length_map]; omega
  subst hjd hrd hgd
  generalize hR : (ms.map rowOf).map rowD = R at *
  generalize hT : textR (ms.map rowOf) = T at *
  generalize hM : ms.map Mv.d = M at *
  generalize hT2 : textR ((ms ++ [Mv.swap 7 0 99 10]).map rowOf) = T2 at *
  refine En.seq (e := [some (f0, .scr ns), some (f1, .lst p), some (f2, .lst M), some (f3, .lst R), s4, some (f5, .str T), some (1, .lst (M ++ [.tup [.str "swap", .int 7, .int 0, .int 99, .int 10]])), none, none, none, none, none]) (by simp [VL.vDef, VL.env0, VL.vSeq, VL.vSet, VL.put, VL.frz, VL.thaw, VL.vName, VL.nrm, VL.noMut, VL.noMutL, VL.v2, VL.v1, VL.vC, VL.gIC, VL.gI, VL.gAdd, VL.gMul, VL.cMul, VL.vCons, VL.vCall, VL.g1, VL.gInt, VL.gLen, VL.gAbs, VL.vRet, VL.vRetName, VL.vIfS, VL.tB_, VL.tV, VL.vLst, VL.vTup, VL.lstRv, VL.gridChild, VL.isFlat, VL.dsOf, VL.alOf, VL.mkL, VL.gCat, VL.gCatT, VL.gCatS, VL.gIx, VL.gIxA, VL.atD, VL.gEq, VL.gIsN, VL.gIsB, VL.gIsi, VL.isiD, VL.vAnd, VL.vOr, VL.vNot, VL.truD, VL.tNot_, VL.tAnd_, VL.tOr_, VL.vNeg, VL.vCallF, VL.frRv, VL.vFor, VL.loopV, VL.gN, VL.iRange1, VL.upTo, VL.rngOk, VL.gStr, VL.gStrC, VL.gIntA, VL.vSplit, VL.vJoin, VL.itemsOf, VL.gTuple, VL.gList, VL.vApp, VL.chg, VL.notIn, VL.gIxK, VL.gInK, VL.lookD, VL.vAug, hlM]) ?_
  refine En.seq (e := [some (f0, .scr ns), some (f1, .lst p), some (f2, .lst M), some (f3, .lst R), s4, some (f5, .str T), some (1, .lst (M ++ [.tup [.str "swap", .int 7, .int 0, .int 99, .int 10]])), some (2, .str T2), none, none, none, none]) (by cases noMutL R <;> simp [VL.vDef, VL.env0, VL.vSeq, VL.vSet, VL.put, VL.frz, VL.thaw, VL.vName, VL.nrm, VL.noMut, VL.noMutL, VL.v2, VL.v1, VL.vC, VL.gIC, VL.gI, VL.gAdd, VL.gMul, VL.cMul, VL.vCons, VL.vCall, VL.g1, VL.gInt, VL.gLen, VL.gAbs, VL.vRet, VL.vRetName, VL.vIfS, VL.tB_, VL.tV, VL.vLst, VL.vTup, VL.lstRv, VL.gridChild, VL.isFlat, VL.dsOf, VL.alOf, VL.mkL, VL.gCat, VL.gCatT, VL.gCatS, VL.gIx, VL.gIxA, VL.atD, VL.gEq, VL.gIsN, VL.gIsB, VL.gIsi, VL.isiD, VL.vAnd, VL.vOr, VL.vNot, VL.truD, VL.tNot_, VL.tAnd_, VL.tOr_, VL.vNeg, VL.vCallF, VL.frRv, VL.vFor, VL.loopV, VL.gN, VL.iRange1, VL.upTo, VL.rngOk, VL.gStr, VL.gStrC, VL.gIntA, VL.vSplit, VL.vJoin, VL.itemsOf, VL.gTuple, VL.gList, VL.vApp, VL.chg, VL.notIn, VL.gIxK, VL.gInK, VL.lookD, VL.vAug, hlR, ej, noMutL_app]) ?_
  refine En.retIf false (by simp [VL.vDef, VL.env0, VL.vSeq, VL.vSet, VL.put, VL.frz, VL.thaw, VL.vName, VL.nrm, VL.noMut, VL.noMutL, VL.v2, VL.v1, VL.vC, VL.gIC, VL.gI, VL.gAdd, VL.gMul, VL.cMul, VL.vCons, VL.vCall, VL.g1, VL.gInt, VL.gLen, VL.gAbs, VL.vRet, VL.vRetName, VL.vIfS, VL.tB_, VL.tV, VL.vLst, VL.vTup, VL.lstRv, VL.gridChild, VL.isFlat, VL.dsOf, VL.alOf, VL.mkL, VL.gCat, VL.gCatT, VL.gCatS, VL.gIx, VL.gIxA, VL.atD, VL.gEq, VL.gIsN, VL.gIsB, VL.gIsi, VL.isiD, VL.vAnd, VL.vOr, VL.vNot, VL.truD, VL.tNot_, VL.tAnd_, VL.tOr_, VL.vNeg, VL.vCallF, VL.frRv, VL.vFor, VL.loopV, VL.gN, VL.iRange1, VL.upTo, VL.rngOk, VL.gStr, VL.gStrC, VL.gIntA, VL.vSplit, VL.vJoin, VL.itemsOf, VL.gTuple, VL.gList, VL.vApp, VL.chg, VL.notIn, VL.gIxK, VL.gInK, VL.lookD, VL.vAug, rt, ss, err, sm1]) (fun z => by cases z) (fun _ => En.skip ?_)
  refine En.seq (e := [some (f0, .scr ns), some (f1, .lst p), some (f2, .lst M), some (f3, .lst R), s4, some (f5, .str T), some (1, .lst (M ++ [.tup [.str "swap", .int 7, .int 0, .int 99, .int 10]])), some (2, .str T2), some (gl, .lst M), none, none, none]) (by simp [VL.vDef, VL.env0, VL.vSeq, VL.vSet, VL.put, VL.frz, VL.thaw, VL.vName, VL.nrm, VL.noMut, VL.noMutL, VL.v2, VL.v1, VL.vC, VL.gIC, VL.gI, VL.gAdd, VL.gMul, VL.cMul, VL.vCons, VL.vCall, VL.g1, VL.gInt, VL.gLen, VL.gAbs, VL.vRet, VL.vRetName, VL.vIfS, VL.tB_, VL.tV, VL.vLst, VL.vTup, VL.lstRv, VL.gridChild, VL.isFlat, VL.dsOf, VL.alOf, VL.mkL, VL.gCat, VL.gCatT, VL.gCatS, VL.gIx, VL.gIxA, VL.atD, VL.gEq, VL.gIsN, VL.gIsB, VL.gIsi, VL.isiD, VL.vAnd, VL.vOr, VL.vNot, VL.truD, VL.tNot_, VL.tAnd_, VL.tOr_, VL.vNeg, VL.vCallF, VL.frRv, VL.vFor, VL.loopV, VL.gN, VL.iRange1, VL.upTo, VL.rngOk, VL.gStr, VL.gStrC, VL.gIntA, VL.vSplit, VL.vJoin, VL.itemsOf, VL.gTuple, VL.gList, VL.vApp, VL.chg, VL.notIn, VL.gIxK, VL.gInK, VL.lookD, VL.vAug, xSet, xCall, egr]) ?_
  refine En.retIf false (by simp [VL.vDef, VL.env0, VL.vSeq, VL.vSet, VL.put, VL.frz, VL.thaw, VL.vName, VL.nrm, VL.noMut, VL.noMutL, VL.v2, VL.v1, VL.vC, VL.gIC, VL.gI, VL.gAdd, VL.gMul, VL.cMul, VL.vCons, VL.vCall, VL.g1, VL.gInt, VL.gLen, VL.gAbs, VL.vRet, VL.vRetName, VL.vIfS, VL.tB_, VL.tV, VL.vLst, VL.vTup, VL.lstRv, VL.gridChild, VL.isFlat, VL.dsOf, VL.alOf, VL.mkL, VL.gCat, VL.gCatT, VL.gCatS, VL.gIx, VL.gIxA, VL.atD, VL.gEq, VL.gIsN, VL.gIsB, VL.gIsi, VL.isiD, VL.vAnd, VL.vOr, VL.vNot, VL.truD, VL.tNot_, VL.tAnd_, VL.tOr_, VL.vNeg, VL.vCallF, VL.frRv, VL.vFor, VL.loopV, VL.gN, VL.iRange1, VL.upTo, VL.rngOk, VL.gStr, VL.gStrC, VL.gIntA, VL.vSplit, VL.vJoin, VL.itemsOf, VL.gTuple, VL.gList, VL.vApp, VL.chg, VL.notIn, VL.gIxK, VL.gInK, VL.lookD, VL.vAug, sm0]) (fun z => by cases z) (fun _ => En.skip ?_)
  refine En.seq (by (simp [VL.vDef, VL.env0, VL.vSeq, VL.vSet, VL.put, VL.frz, VL.thaw, VL.vName, VL.nrm, VL.noMut, VL.noMutL, VL.v2, VL.v1, VL.vC, VL.gIC, VL.gI, VL.gAdd, VL.gMul, VL.cMul, VL.vCons, VL.vCall, VL.g1, VL.gInt, VL.gLen, VL.gAbs, VL.vRet, VL.vRetName, VL.vIfS, VL.tB_, VL.tV, VL.vLst, VL.vTup, VL.lstRv, VL.gridChild, VL.isFlat, VL.dsOf, VL.alOf, VL.mkL, VL.gCat, VL.gCatT, VL.gCatS, VL.gIx, VL.gIxA, VL.atD, VL.gEq, VL.gIsN, VL.gIsB, VL.gIsi, VL.isiD, VL.vAnd, VL.vOr, VL.vNot, VL.truD, VL.tNot_, VL.tAnd_, VL.tOr_, VL.vNeg, VL.vCallF, VL.frRv, VL.vFor, VL.loopV, VL.gN, VL.iRange1, VL.upTo, VL.rngOk, VL.vComp, VL.compV, VL.compRv, VL.wipeE, VL.iSeq, VL.itemsD, VL.gStr, VL.gStrC, VL.gIntA, VL.vSplit, VL.vJoin, VL.itemsOf, VL.gTuple, VL.gList, VL.vApp, VL.chg, VL.notIn, VL.gIxK, VL.gInK, VL.lookD, VL.vAug, hgl, hlM] <;> first | exact rfl | exact ⟨rfl, rfl⟩ | exact ⟨rfl, rfl, rfl⟩)) (k _ ⟨f0, f1, f2, f3, f5, s4, _, _, _, ms, by rw [hR, hT, hM], hl, hok⟩)
end VL

namespace VL
open PySem TL
theorem range_first {n k : Nat} {p : Nat → Bool} {r : List Nat} (h : (List.range n).filter p = k :: r) : k < n ∧ p k = true ∧ ∀ j, j < k → p j = false := by
  obtain ⟨l1, l2, e, h1, h2, _⟩ := List.filter_eq_cons_iff.mp h
  have hl : (List.range n).length = n := List.length_range
  have hk : l1.length < n := by rw [← hl, e]; simp
  have e1 : (List.range n)[l1.length]? = some k := by rw [e]; simp
  rw [List.getElem?_range hk] at e1
  have ek : l1.length = k := Option.some.inj e1
  refine ⟨by omega, h2, fun j hj => ?_⟩
  have ej : (List.range n)[j]? = some j := List.getElem?_range (by omega)
  rw [e, List.getElem?_append_left (by omega)] at ej
  have := h1 j (List.mem_of_getElem? ej)
  simpa using this
def Fin_ (ms : List Mv) (rs : List Rw) : Prop := (rs = ms.map rowOf) ∨ ((∀ r ∈ rs, rowP r) ∧ rs.length ≤ 125 ∧ (∃ r ∈ rs, r.2 = false) ∧ (textR rs = "" → ms = []))
theorem Fin_.rowP {ms : List Mv} {rs : List Rw} (hok : ∀ m ∈ ms, m.ok) (h : Fin_ ms rs) : ∀ r ∈ rs, rowP r := by
  rcases h with rfl | h
  · intro r hr
    obtain ⟨m, hm, rfl⟩ := List.mem_map.mp hr
    exact .inl ⟨m, hok m hm, rfl⟩
  · exact h.1
theorem Fin_.len {ms : List Mv} {rs : List Rw} (hl : ms.length ≤ 120) (h : Fin_ ms rs) : rs.length ≤ 125 := by
  rcases h with rfl | h
  · rw [List.length_map]; omega
  · exact h.2.1
theorem Fin_.chg {ms : List Mv} {rs rs' : List Rw} (n : Nat) (hn : n ≤ 124) (hl : rs.length ≤ n) (h : Fin_ ms rs) (c : Chg rs rs') : Fin_ ms rs' ∧ rs'.length ≤ n + 1 := by
  have := c.len
  refine ⟨.inr ⟨c.ok, by omega, c.bad, fun z => ?_⟩, by omega⟩
  rcases h with rfl | ⟨_, _, ⟨r, hr, _⟩, _⟩
  · by_cases hm : ms = []
    · exact hm
    · exact absurd z (c.emp (by simpa using hm))
  · exact absurd z (c.emp (fun q => by rw [q] at hr; cases hr))
/-- one change, made or not -/
def IL4 (ns : List Int) (p : List D) (ms : List Mv) (n : Nat) (e' : Ev) : Prop := ∃ (f0 f1 f2 f3 f5 : Nat) (s4 s6 s7 s8 : Slot) (rs : List Rw), e' = [some (f0, .scr ns), some (f1, .lst p), some (f2, .lst (ms.map Mv.d)), some (f3, .lst (rs.map rowD)), s4, some (f5, .str (textR (ms.map rowOf))), s6, s7, s8, none, none, none] ∧ Fin_ ms rs ∧ rs.length ≤ n
theorem e_step {ns : List Int} {p : List D} {ms : List Mv} (hok : ∀ m ∈ ms, m.ok) (hp : Pool 150 p) {start : Int} (h0 : 0 ≤ start) (h1 : start ≤ 145) {n : Nat} (hn : n ≤ 124) {e : Ev} (hI : IL4 ns p ms n e) : En (vSet 3 (vCallF c_law_changed (vCons (vName 3) (vCons (vName 1) (vCons (vC (.int start)) (fun _ => some []))))) e) fun r => ∃ e', r = .nx e' ∧ IL4 ns p ms (n + 1) e' := by
  obtain ⟨f0, f1, f2, f3, f5, s4, s6, s7, s8, rs, rfl, hf, hl⟩ := hI
  obtain ⟨d, l, ec, rs', rfl, c⟩ := e_changed (rs := rs) (by omega) (hf.rowP hok) hp h0 (by omega)
  obtain ⟨g1, g2⟩ := hf.chg n hn hl c
  have hne : noMutL (rs'.map rowD) = false := by
    obtain ⟨r, hr, _⟩ := c.bad
    cases hq : noMutL (rs'.map rowD) with
    | false => rfl
    | true =>
      have := noMutL_mem hq _ (List.mem_map.mpr ⟨r, hr, rfl⟩)
      unfold rowD at this
      cases this
  exact En.is (by (simp [VL.vDef, VL.env0, VL.vSeq, VL.vSet, VL.put, VL.frz, VL.thaw, VL.vName, VL.nrm, VL.noMut, VL.noMutL, VL.v2, VL.v1, VL.vC, VL.gIC, VL.gI, VL.gAdd, VL.gMul, VL.cMul, VL.vCons, VL.vCall, VL.g1, VL.gInt, VL.gLen, VL.gAbs, VL.vRet, VL.vRetName, VL.vIfS, VL.tB_, VL.tV, VL.vLst, VL.vTup, VL.lstRv, VL.gridChild, VL.isFlat, VL.dsOf, VL.alOf, VL.mkL, VL.gCat, VL.gCatT, VL.gCatS, VL.gIx, VL.gIxA, VL.atD, VL.gEq, VL.gIsN, VL.gIsB, VL.gIsi, VL.isiD, VL.vAnd, VL.vOr, VL.vNot, VL.truD, VL.tNot_, VL.tAnd_, VL.tOr_, VL.vNeg, VL.vCallF, VL.frRv, VL.vFor, VL.loopV, VL.gN, VL.iRange1, VL.upTo, VL.rngOk, VL.vComp, VL.compV, VL.compRv, VL.wipeE, VL.iSeq, VL.itemsD, VL.gStr, VL.gStrC, VL.gIntA, VL.vSplit, VL.vJoin, VL.itemsOf, VL.gTuple, VL.gList, VL.vApp, VL.chg, VL.notIn, VL.gIxK, VL.gInK, VL.lookD, VL.vAug, ec] <;> first | exact rfl | exact ⟨rfl, rfl⟩ | exact ⟨rfl, rfl, rfl⟩)) ⟨_, rfl, f0, _, f2, l, f5, s4, s6, s7, s8, rs', rfl, g1, g2⟩
theorem e_badrows {rs : List Rw} (hn : rs.length ≤ 500) (f0 f1 f2 f3 f5 : Nat) (a0 a1 a2 a5 : D) (s4 s6 s7 s8 s9 : Slot) : vComp (iRange1 (vCons (vCall (g1 gLen) (vCons (vName 3) (fun _ => some []))) (fun _ => some []))) [11] (gN 11) (tNot_ (tV (v2 gIx (v2 gIx (vName 3) (vName 11)) (vC (.int 1))))) (v2 gAdd (vName 11) (vC (.int 1))) [some (f0, a0), some (f1, a1), some (f2, a2), some (f3, .lst (rs.map rowD)), s4, some (f5, a5), s6, s7, s8, s9, none, none]
    = some ⟨.lst (((List.range rs.length).filter (fun k => !flag rs k)).map fun k : Nat => D.int ((k : Int) + 1)), 2, []⟩ := by
  have r1 : -16777216 ≤ (rs.length : Int) := by omega
  have r2 : (rs.length : Int) ≤ 16777216 := by omega
  rw [comp_filX (al := []) (xs := List.range rs.length) (fun k : Nat => D.int (k : Int)) (fun k => !flag rs k) (fun k => ⟨.int ((k : Int) + 1), 2, []⟩) (by simp [VL.vDef, VL.env0, VL.vSeq, VL.vSet, VL.put, VL.frz, VL.thaw, VL.vName, VL.nrm, VL.noMut, VL.noMutL, VL.v2, VL.v1, VL.vC, VL.gIC, VL.gI, VL.gAdd, VL.gMul, VL.cMul, VL.vCons, VL.vCall, VL.g1, VL.gInt, VL.gLen, VL.gAbs, VL.vRet, VL.vRetName, VL.vIfS, VL.tB_, VL.tV, VL.vLst, VL.vTup, VL.lstRv, VL.gridChild, VL.isFlat, VL.dsOf, VL.alOf, VL.mkL, VL.gCat, VL.gCatT, VL.gCatS, VL.gIx, VL.gIxA, VL.atD, VL.gEq, VL.gIsN, VL.gIsB, VL.gIsi, VL.isiD, VL.vAnd, VL.vOr, VL.vNot, VL.truD, VL.tNot_, VL.tAnd_, VL.tOr_, VL.vNeg, VL.vCallF, VL.frRv, VL.vFor, VL.loopV, VL.gN, VL.iRange1, VL.upTo, VL.rngOk, VL.vComp, VL.compV, VL.compRv, VL.wipeE, VL.iSeq, VL.itemsD, VL.gStr, VL.gStrC, VL.gIntA, VL.vSplit, VL.vJoin, VL.itemsOf, VL.gTuple, VL.gList, VL.vApp, VL.chg, VL.notIn, VL.gIxK, VL.gInK, VL.lookD, VL.vAug, r1, r2, upTo0]) (fun k hk => ?_), compRv_map fun _ _ => rfl]
  have hk := List.mem_range.mp hk
  have ea := atI_rows hk
  have e1 := row_at1 rs[k]
  have ef : flag rs k = rs[k].2 := by unfold flag; rw [List.getElem?_eq_getElem hk]
  refine ⟨[some (f0, a0), some (f1, a1), some (f2, a2), some (f3, .lst (rs.map rowD)), s4, some (f5, a5), s6, s7, s8, s9, none, some (0, .int k)], by simp [VL.vDef, VL.env0, VL.vSeq, VL.vSet, VL.put, VL.frz, VL.thaw, VL.vName, VL.nrm, VL.noMut, VL.noMutL, VL.v2, VL.v1, VL.vC, VL.gIC, VL.gI, VL.gAdd, VL.gMul, VL.cMul, VL.vCons, VL.vCall, VL.g1, VL.gInt, VL.gLen, VL.gAbs, VL.vRet, VL.vRetName, VL.vIfS, VL.tB_, VL.tV, VL.vLst, VL.vTup, VL.lstRv, VL.gridChild, VL.isFlat, VL.dsOf, VL.alOf, VL.mkL, VL.gCat, VL.gCatT, VL.gCatS, VL.gIx, VL.gIxA, VL.atD, VL.gEq, VL.gIsN, VL.gIsB, VL.gIsi, VL.isiD, VL.vAnd, VL.vOr, VL.vNot, VL.truD, VL.tNot_, VL.tAnd_, VL.tOr_, VL.vNeg, VL.vCallF, VL.frRv, VL.vFor, VL.loopV, VL.gN, VL.iRange1, VL.upTo, VL.rngOk, VL.vComp, VL.compV, VL.compRv, VL.wipeE, VL.iSeq, VL.itemsD, VL.gStr, VL.gStrC, VL.gIntA, VL.vSplit, VL.vJoin, VL.itemsOf, VL.gTuple, VL.gList, VL.vApp, VL.chg, VL.notIn, VL.gIxK, VL.gInK, VL.lookD, VL.vAug], ?_, fun _ => by simp [VL.vDef, VL.env0, VL.vSeq, VL.vSet, VL.put, VL.frz, VL.thaw, VL.vName, VL.nrm, VL.noMut, VL.noMutL, VL.v2, VL.v1, VL.vC, VL.gIC, VL.gI, VL.gAdd, VL.gMul, VL.cMul, VL.vCons, VL.vCall, VL.g1, VL.gInt, VL.gLen, VL.gAbs, VL.vRet, VL.vRetName, VL.vIfS, VL.tB_, VL.tV, VL.vLst, VL.vTup, VL.lstRv, VL.gridChild, VL.isFlat, VL.dsOf, VL.alOf, VL.mkL, VL.gCat, VL.gCatT, VL.gCatS, VL.gIx, VL.gIxA, VL.atD, VL.gEq, VL.gIsN, VL.gIsB, VL.gIsi, VL.isiD, VL.vAnd, VL.vOr, VL.vNot, VL.truD, VL.tNot_, VL.tAnd_, VL.tOr_, VL.vNeg, VL.vCallF, VL.frRv, VL.vFor, VL.loopV, VL.gN, VL.iRange1, VL.upTo, VL.rngOk, VL.vComp, VL.compV, VL.compRv, VL.wipeE, VL.iSeq, VL.itemsD, VL.gStr, VL.gStrC, VL.gIntA, VL.vSplit, VL.vJoin, VL.itemsOf, VL.gTuple, VL.gList, VL.vApp, VL.chg, VL.notIn, VL.gIxK, VL.gInK, VL.lookD, VL.vAug]⟩
  rw [ef]
  cases noMutL (rs.map rowD) <;> simp [VL.vDef, VL.env0, VL.vSeq, VL.vSet, VL.put, VL.frz, VL.thaw, VL.vName, VL.nrm, VL.noMut, VL.noMutL, VL.v2, VL.v1, VL.vC, VL.gIC, VL.gI, VL.gAdd, VL.gMul, VL.cMul, VL.vCons, VL.vCall, VL.g1, VL.gInt, VL.gLen, VL.gAbs, VL.vRet, VL.vRetName, VL.vIfS, VL.tB_, VL.tV, VL.vLst, VL.vTup, VL.lstRv, VL.gridChild, VL.isFlat, VL.dsOf, VL.alOf, VL.mkL, VL.gCat, VL.gCatT, VL.gCatS, VL.gIx, VL.gIxA, VL.atD, VL.gEq, VL.gIsN, VL.gIsB, VL.gIsi, VL.isiD, VL.vAnd, VL.vOr, VL.vNot, VL.truD, VL.tNot_, VL.tAnd_, VL.tOr_, VL.vNeg, VL.vCallF, VL.frRv, VL.vFor, VL.loopV, VL.gN, VL.iRange1, VL.upTo, VL.rngOk, VL.vComp, VL.compV, VL.compRv, VL.wipeE, VL.iSeq, VL.itemsD, VL.gStr, VL.gStrC, VL.gIntA, VL.vSplit, VL.vJoin, VL.itemsOf, VL.gTuple, VL.gList, VL.vApp, VL.chg, VL.notIn, VL.gIxK, VL.gInK, VL.lookD, VL.vAug, ea, rowD, e1]
theorem ints1_nil (ns : List Nat) : eqD (.lst (ns.map fun k : Nat => D.int ((k : Int) + 1))) (.lst []) = some (decide (ns = [])) := by
  have e : (ns.map fun k : Nat => D.int ((k : Int) + 1)) = (ns.map fun k : Nat => (k : Int) + 1).map D.int := by rw [List.map_map]; rfl
  rw [e, eqD_nil]
  cases ns <;> rfl
theorem e_law_last {ns : List Int} {p : List D} {ms : List Mv} (hok : ∀ m ∈ ms, m.ok) (hml : ms.length ≤ 120) {e : Ev} (hI : IL4 ns p ms 125 e) : En ((vSeq (vSet 9 (vCallF c_law_joined_rows (vCons (vName 3) (fun _ => some []))))
  (vSeq (vSet 10 (vComp (iRange1 (vCons (vCall (g1 gLen) (vCons (vName 3) (fun _ => some []))) (fun _ => some []))) [11] (gN 11) (tNot_ (tV (v2 gIx (v2 gIx (vName 3) (vName 11)) (vC (.int 1))))) (v2 gAdd (vName 11) (vC (.int 1)))))
  (vSeq (vIfS (tOr_ (tB_ (v2 (gEq false) (vName 9) (vC (.str "")))) (tB_ (v2 (gEq false) (vName 10) (vLst (fun _ => some []))))) (vRet (vCallF (c_law_same 8) (vCons (vCallF c_law_read (vCons (vName 9) (fun _ => some []))) (vCons (vName 2) (fun _ => some []))))) ((fun e => .nx e)))
  (vSeq (vIfS (tOr_ (tNot_ (tV (vCallF (c_law_same 8) (vCons (vCallF c_law_read (vCons (vName 9) (fun _ => some []))) (vCons (vTup (vCons (vC (.str "refused")) (vCons (v2 gIx (vName 10) (vC (.int 0))) (fun _ => some [])))) (fun _ => some [])))))) (tNot_ (tV (vCallF c_law_pure (vCons (vName 9) (fun _ => some [])))))) (vRet (vC (.bl false))) ((fun e => .nx e)))
  (vRet (vCallF (c_law_same 8) (vCons (vCallF c_law_read (vCons (vName 5) (fun _ => some []))) (vCons (vName 2) (fun _ => some [])))))))) ) e) fun r => ∃ l, r = .ret (.bl true) l := by
  obtain ⟨f0, f1, f2, f3, f5, s4, s6, s7, s8, rs, rfl, hf, hl⟩ := hI
  have hrp := hf.rowP hok
  have hr : ∀ r ∈ rs, rOk r := fun r h => rowP_ok (hrp r h)
  obtain ⟨jd, jl, ej, rfl⟩ := e_joined (rs := rs) (by omega) hr
  have tk := text_ok hr
  have eb := e_badrows (rs := rs) (by omega) f0 f1 f2 f3 f5 (.scr ns) (.lst p) (.lst (ms.map Mv.d)) (.str (textR (ms.map rowOf))) s4 s6 s7 s8 (some (2, .str (textR rs)))
  obtain ⟨gd, gl, egr, hgd, hgl⟩ := e_rr_good (ms := ms) (by omega) hok
  subst hgd
  obtain ⟨l1, er1⟩ := e_read_ok egr
  have sm0 := same_mvs (ms := ms) (by omega)
  have nmv := noMutL_mv ms
  refine En.seq (e := [some (f0, .scr ns), some (f1, .lst p), some (f2, .lst (ms.map Mv.d)), some (f3, .lst (rs.map rowD)), s4, some (f5, .str (textR (ms.map rowOf))), s6, s7, s8, some (2, .str (textR rs)), none, none]) (by simp [VL.vDef, VL.env0, VL.vSeq, VL.vSet, VL.put, VL.frz, VL.thaw, VL.vName, VL.nrm, VL.noMut, VL.noMutL, VL.v2, VL.v1, VL.vC, VL.gIC, VL.gI, VL.gAdd, VL.gMul, VL.cMul, VL.vCons, VL.vCall, VL.g1, VL.gInt, VL.gLen, VL.gAbs, VL.vRet, VL.vRetName, VL.vIfS, VL.tB_, VL.tV, VL.vLst, VL.vTup, VL.lstRv, VL.gridChild, VL.isFlat, VL.dsOf, VL.alOf, VL.mkL, VL.gCat, VL.gCatT, VL.gCatS, VL.gIx, VL.gIxA, VL.atD, VL.gEq, VL.gIsN, VL.gIsB, VL.gIsi, VL.isiD, VL.vAnd, VL.vOr, VL.vNot, VL.truD, VL.tNot_, VL.tAnd_, VL.tOr_, VL.vNeg, VL.vCallF, VL.frRv, VL.vFor, VL.loopV, VL.gN, VL.iRange1, VL.upTo, VL.rngOk, VL.gStr, VL.gStrC, VL.gIntA, VL.vSplit, VL.vJoin, VL.itemsOf, VL.gTuple, VL.gList, VL.vApp, VL.chg, VL.notIn, VL.gIxK, VL.gInK, VL.lookD, VL.vAug, ej]) ?_
  generalize hB : (List.range rs.length).filter (fun k => !flag rs k) = B at eb
  refine En.seq (e := [some (f0, .scr ns), some (f1, .lst p), some (f2, .lst (ms.map Mv.d)), some (f3, .lst (rs.map rowD)), s4, some (f5, .str (textR (ms.map rowOf))), s6, s7, s8, some (2, .str (textR rs)), some (2, .lst (B.map fun k : Nat => D.int ((k : Int) + 1))), none]) (by simp [VL.vDef, VL.env0, VL.vSeq, VL.vSet, VL.put, VL.frz, VL.thaw, VL.vName, VL.nrm, VL.noMut, VL.noMutL, VL.v2, VL.v1, VL.vC, VL.gIC, VL.gI, VL.gAdd, VL.gMul, VL.cMul, VL.vCons, VL.vCall, VL.g1, VL.gInt, VL.gLen, VL.gAbs, VL.vRet, VL.vRetName, VL.vIfS, VL.tB_, VL.tV, VL.vLst, VL.vTup, VL.lstRv, VL.gridChild, VL.isFlat, VL.dsOf, VL.alOf, VL.mkL, VL.gCat, VL.gCatT, VL.gCatS, VL.gIx, VL.gIxA, VL.atD, VL.gEq, VL.gIsN, VL.gIsB, VL.gIsi, VL.isiD, VL.vAnd, VL.vOr, VL.vNot, VL.truD, VL.tNot_, VL.tAnd_, VL.tOr_, VL.vNeg, VL.vCallF, VL.frRv, VL.vFor, VL.loopV, VL.gN, VL.iRange1, VL.upTo, VL.rngOk, VL.gStr, VL.gStrC, VL.gIntA, VL.vSplit, VL.vJoin, VL.itemsOf, VL.gTuple, VL.gList, VL.vApp, VL.chg, VL.notIn, VL.gIxK, VL.gInK, VL.lookD, VL.vAug, eb]) ?_
  have ee := eqD_str tk (b := "") (by decide +kernel)
  have en := ints1_nil B
  refine En.retIf (decide (textR rs = "") || decide (B = [])) (by
    cases c : decide (textR rs = "")
    · have c' : ¬ textR rs = Str.ofString "" := of_decide_eq_false c
      simp [VL.vDef, VL.env0, VL.vSeq, VL.vSet, VL.put, VL.frz, VL.thaw, VL.vName, VL.nrm, VL.noMut, VL.noMutL, VL.v2, VL.v1, VL.vC, VL.gIC, VL.gI, VL.gAdd, VL.gMul, VL.cMul, VL.vCons, VL.vCall, VL.g1, VL.gInt, VL.gLen, VL.gAbs, VL.vRet, VL.vRetName, VL.vIfS, VL.tB_, VL.tV, VL.vLst, VL.vTup, VL.lstRv, VL.gridChild, VL.isFlat, VL.dsOf, VL.alOf, VL.mkL, VL.gCat, VL.gCatT, VL.gCatS, VL.gIx, VL.gIxA, VL.atD, VL.gEq, VL.gIsN, VL.gIsB, VL.gIsi, VL.isiD, VL.vAnd, VL.vOr, VL.vNot, VL.truD, VL.tNot_, VL.tAnd_, VL.tOr_, VL.vNeg, VL.vCallF, VL.frRv, VL.vFor, VL.loopV, VL.gN, VL.iRange1, VL.upTo, VL.rngOk, VL.gStr, VL.gStrC, VL.gIntA, VL.vSplit, VL.vJoin, VL.itemsOf, VL.gTuple, VL.gList, VL.vApp, VL.chg, VL.notIn, VL.gIxK, VL.gInK, VL.lookD, VL.vAug, ee, en, c']
    · have c' : textR rs = Str.ofString "" := of_decide_eq_true c
      rw [c'] at ee
      simp [VL.vDef, VL.env0, VL.vSeq, VL.vSet, VL.put, VL.frz, VL.thaw, VL.vName, VL.nrm, VL.noMut, VL.noMutL, VL.v2, VL.v1, VL.vC, VL.gIC, VL.gI, VL.gAdd, VL.gMul, VL.cMul, VL.vCons, VL.vCall, VL.g1, VL.gInt, VL.gLen, VL.gAbs, VL.vRet, VL.vRetName, VL.vIfS, VL.tB_, VL.tV, VL.vLst, VL.vTup, VL.lstRv, VL.gridChild, VL.isFlat, VL.dsOf, VL.alOf, VL.mkL, VL.gCat, VL.gCatT, VL.gCatS, VL.gIx, VL.gIxA, VL.atD, VL.gEq, VL.gIsN, VL.gIsB, VL.gIsi, VL.isiD, VL.vAnd, VL.vOr, VL.vNot, VL.truD, VL.tNot_, VL.tAnd_, VL.tOr_, VL.vNeg, VL.vCallF, VL.frRv, VL.vFor, VL.loopV, VL.gN, VL.iRange1, VL.upTo, VL.rngOk, VL.gStr, VL.gStrC, VL.gIntA, VL.vSplit, VL.vJoin, VL.itemsOf, VL.gTuple, VL.gList, VL.vApp, VL.chg, VL.notIn, VL.gIxK, VL.gInK, VL.lookD, VL.vAug, ee, en, c']) (fun c => ?_) (fun c => ?_)
  · -- as it was
    have er : ∃ l, c_law_read [.str (textR rs)] = .ok (.lst (ms.map Mv.d)) l := by
      rcases hf with rfl | ⟨h1, h2, ⟨r, hr1, hr2⟩, h4⟩
      · exact ⟨l1, er1⟩
      · have hBne : B ≠ [] := by
          intro z
          rw [z] at hB
          obtain ⟨k, hk, ek⟩ := List.getElem_of_mem hr1
          have := List.filter_eq_nil_iff.mp hB k (List.mem_range.mpr hk)
          have ef : flag rs k = false := by unfold flag; rw [List.getElem?_eq_getElem hk, ek]; exact hr2
          rw [ef] at this
          exact this rfl
        rw [Bool.or_eq_true] at c
        rcases c with c | c
        · have hz : textR rs = "" := of_decide_eq_true c
          have hm := h4 hz
          subst hm
          rw [hz]
          have : textR (([] : List Mv).map rowOf) = "" := by unfold textR; rw [List.map_nil, List.map_nil, join_nil]; decide +kernel
          rw [this] at er1
          exact ⟨l1, er1⟩
        · exact absurd (of_decide_eq_true c) hBne
    obtain ⟨l, er⟩ := er
    exact En.seq_ret (by (simp [VL.vDef, VL.env0, VL.vSeq, VL.vSet, VL.put, VL.frz, VL.thaw, VL.vName, VL.nrm, VL.noMut, VL.noMutL, VL.v2, VL.v1, VL.vC, VL.gIC, VL.gI, VL.gAdd, VL.gMul, VL.cMul, VL.vCons, VL.vCall, VL.g1, VL.gInt, VL.gLen, VL.gAbs, VL.vRet, VL.vRetName, VL.vIfS, VL.tB_, VL.tV, VL.vLst, VL.vTup, VL.lstRv, VL.gridChild, VL.isFlat, VL.dsOf, VL.alOf, VL.mkL, VL.gCat, VL.gCatT, VL.gCatS, VL.gIx, VL.gIxA, VL.atD, VL.gEq, VL.gIsN, VL.gIsB, VL.gIsi, VL.isiD, VL.vAnd, VL.vOr, VL.vNot, VL.truD, VL.tNot_, VL.tAnd_, VL.tOr_, VL.vNeg, VL.vCallF, VL.frRv, VL.vFor, VL.loopV, VL.gN, VL.iRange1, VL.upTo, VL.rngOk, VL.vComp, VL.compV, VL.compRv, VL.wipeE, VL.iSeq, VL.itemsD, VL.gStr, VL.gStrC, VL.gIntA, VL.vSplit, VL.vJoin, VL.itemsOf, VL.gTuple, VL.gList, VL.vApp, VL.chg, VL.notIn, VL.gIxK, VL.gInK, VL.lookD, VL.vAug, er, sm0] <;> first | exact rfl | exact ⟨rfl, rfl⟩ | exact ⟨rfl, rfl, rfl⟩)) ⟨_, rfl⟩
  refine En.skip ?_
  rw [Bool.or_eq_false_iff] at c
  have hz : textR rs ≠ "" := of_decide_eq_false c.1
  have hBne : B ≠ [] := of_decide_eq_false c.2
  cases B with
  | nil => exact absurd rfl hBne
  | cons k B =>
    obtain ⟨k1, k2, k3⟩ := range_first hB
    have fl : ∀ j (h : j < rs.length), flag rs j = rs[j].2 := fun j h => by unfold flag; rw [List.getElem?_eq_getElem h]
    have err := e_rr_bad (rs := rs) (by omega) hr hz k1 (fun j hj => by
      have h2 := k3 j hj
      have hj2 : j < rs.length := by omega
      rw [fl j hj2] at h2
      rcases hrp _ (List.getElem_mem hj2) with ⟨m, hm, e⟩ | ⟨q, _⟩
      · exact ⟨m, hm, e⟩
      · rw [q] at h2; cases h2) (by
      rw [fl k k1] at k2
      rcases hrp _ (List.getElem_mem k1) with ⟨m, hm, e⟩ | ⟨_, q, _⟩
      · rw [e] at k2; cases k2
      · exact q)
    obtain ⟨l2, er2⟩ := e_read_bad err
    obtain ⟨l3, er3⟩ := e_pure_bad err
    have es : c_law_same 8 [.tup [.str "refused", .int ((k : Int) + 1)], .tup [.str "refused", .int ((k : Int) + 1)]] = .ok (.bl true) 2 := e_same 8 _ (by
      have : PyData.strOk "refused" = true := by decide +kernel
      simp [pl, this])
    have e0 : L2.atI (D.int ((k : Int) + 1) :: B.map fun k : Nat => D.int ((k : Int) + 1)) 0 = some (.int ((k : Int) + 1)) := atI_zero _ _
    have nB : noMutL (B.map fun k : Nat => D.int ((k : Int) + 1)) = true := noMutL_of fun d hd => by obtain ⟨k, _, rfl⟩ := List.mem_map.mp hd; rfl
    refine En.retIf false (by
      rw [List.map_cons]
      generalize (B.map fun k : Nat => D.int ((k : Int) + 1)) = Bm at *
      simp [VL.vDef, VL.env0, VL.vSeq, VL.vSet, VL.put, VL.frz, VL.thaw, VL.vName, VL.nrm, VL.noMut, VL.noMutL, VL.v2, VL.v1, VL.vC, VL.gIC, VL.gI, VL.gAdd, VL.gMul, VL.cMul, VL.vCons, VL.vCall, VL.g1, VL.gInt, VL.gLen, VL.gAbs, VL.vRet, VL.vRetName, VL.vIfS, VL.tB_, VL.tV, VL.vLst, VL.vTup, VL.lstRv, VL.gridChild, VL.isFlat, VL.dsOf, VL.alOf, VL.mkL, VL.gCat, VL.gCatT, VL.gCatS, VL.gIx, VL.gIxA, VL.atD, VL.gEq, VL.gIsN, VL.gIsB, VL.gIsi, VL.isiD, VL.vAnd, VL.vOr, VL.vNot, VL.truD, VL.tNot_, VL.tAnd_, VL.tOr_, VL.vNeg, VL.vCallF, VL.frRv, VL.vFor, VL.loopV, VL.gN, VL.iRange1, VL.upTo, VL.rngOk, VL.gStr, VL.gStrC, VL.gIntA, VL.vSplit, VL.vJoin, VL.itemsOf, VL.gTuple, VL.gList, VL.vApp, VL.chg, VL.notIn, VL.gIxK, VL.gInK, VL.lookD, VL.vAug, er2, e0, es, er3, nB]) (fun z => by cases z) (fun _ => En.skip ?_)
    exact En.is (by (simp [VL.vDef, VL.env0, VL.vSeq, VL.vSet, VL.put, VL.frz, VL.thaw, VL.vName, VL.nrm, VL.noMut, VL.noMutL, VL.v2, VL.v1, VL.vC, VL.gIC, VL.gI, VL.gAdd, VL.gMul, VL.cMul, VL.vCons, VL.vCall, VL.g1, VL.gInt, VL.gLen, VL.gAbs, VL.vRet, VL.vRetName, VL.vIfS, VL.tB_, VL.tV, VL.vLst, VL.vTup, VL.lstRv, VL.gridChild, VL.isFlat, VL.dsOf, VL.alOf, VL.mkL, VL.gCat, VL.gCatT, VL.gCatS, VL.gIx, VL.gIxA, VL.atD, VL.gEq, VL.gIsN, VL.gIsB, VL.gIsi, VL.isiD, VL.vAnd, VL.vOr, VL.vNot, VL.truD, VL.tNot_, VL.tAnd_, VL.tOr_, VL.vNeg, VL.vCallF, VL.frRv, VL.vFor, VL.loopV, VL.gN, VL.iRange1, VL.upTo, VL.rngOk, VL.vComp, VL.compV, VL.compRv, VL.wipeE, VL.iSeq, VL.itemsD, VL.gStr, VL.gStrC, VL.gIntA, VL.vSplit, VL.vJoin, VL.itemsOf, VL.gTuple, VL.gList, VL.vApp, VL.chg, VL.notIn, VL.gIxK, VL.gInK, VL.lookD, VL.vAug, er1, sm0] <;> first | exact rfl | exact ⟨rfl, rfl⟩ | exact ⟨rfl, rfl, rfl⟩)) ⟨_, rfl⟩
theorem e_law_three {ns : List Int} {p : List D} (hp : Pool 150 p) {e : Ev} (hI : IL3 ns p e) {rest : VS} {P : Rs → Prop} (k : ∀ e' ms, (∀ m ∈ ms, Mv.ok m) → ms.length ≤ 120 → IL4 ns p ms 125 e' → En (rest e') P) : En ((vSeq (vIfS (tB_ (v2 (gEq false) (v2 (gIC (fun _ j => decide (0 < j)) fun i j => .int (i % j)) (vCall (g1 gInt) (vCons (v2 gIx (vName 1) (vC (.int 2))) (fun _ => some []))) (vC (.int 2))) (vC (.int 1)))) (vSet 3 (vCallF c_law_changed (vCons (vName 3) (vCons (vName 1) (vCons (vC (.int 130)) (fun _ => some [])))))) ((fun e => .nx e)))
  (vSeq (vIfS (tB_ (v2 (gEq false) (v2 (gIC (fun _ j => decide (0 < j)) fun i j => .int (i % j)) (vCall (g1 gInt) (vCons (v2 gIx (vName 1) (vC (.int 2))) (fun _ => some []))) (vC (.int 4))) (vC (.int 3)))) (vSet 3 (vCallF c_law_changed (vCons (vName 3) (vCons (vName 1) (vCons (vC (.int 140)) (fun _ => some [])))))) ((fun e => .nx e)))
  rest)) e) P := by
  obtain ⟨f0, f1, f2, f3, f5, s4, s6, s7, s8, ms, rfl, hl, hok⟩ := hI
  obtain ⟨v, ev, _⟩ := hp.at_ (i := 2) (by decide) (by decide)
  have i0 : IL4 ns p ms 120 [some (f0, .scr ns), some (f1, .lst p), some (f2, .lst (ms.map Mv.d)), some (f3, .lst ((ms.map rowOf).map rowD)), s4, some (f5, .str (textR (ms.map rowOf))), s6, s7, s8, none, none, none] := ⟨f0, f1, f2, f3, f5, s4, s6, s7, s8, _, rfl, .inl rfl, by rw [List.length_map]; exact hl⟩
  have up : ∀ {n m : Nat} {e : Ev}, n ≤ m → IL4 ns p ms n e → IL4 ns p ms m e := fun h ⟨f0, f1, f2, f3, f5, s4, s6, s7, s8, rs, q1, q2, q3⟩ => ⟨f0, f1, f2, f3, f5, s4, s6, s7, s8, rs, q1, q2, by omega⟩
  have nP : noMutL p = true := noMutL_of fun d hd => by obtain ⟨i, rfl, _⟩ := hp.2 d hd; rfl
  refine En.seqIf (Q := IL4 ns p ms 121) (decide (v % 2 = 1)) (by simp [VL.vDef, VL.env0, VL.vSeq, VL.vSet, VL.put, VL.frz, VL.thaw, VL.vName, VL.nrm, VL.noMut, VL.noMutL, VL.v2, VL.v1, VL.vC, VL.gIC, VL.gI, VL.gAdd, VL.gMul, VL.cMul, VL.vCons, VL.vCall, VL.g1, VL.gInt, VL.gLen, VL.gAbs, VL.vRet, VL.vRetName, VL.vIfS, VL.tB_, VL.tV, VL.vLst, VL.vTup, VL.lstRv, VL.gridChild, VL.isFlat, VL.dsOf, VL.alOf, VL.mkL, VL.gCat, VL.gCatT, VL.gCatS, VL.gIx, VL.gIxA, VL.atD, VL.gEq, VL.gIsN, VL.gIsB, VL.gIsi, VL.isiD, VL.vAnd, VL.vOr, VL.vNot, VL.truD, VL.tNot_, VL.tAnd_, VL.tOr_, VL.vNeg, VL.vCallF, VL.frRv, VL.vFor, VL.loopV, VL.gN, VL.iRange1, VL.upTo, VL.rngOk, VL.gStr, VL.gStrC, VL.gIntA, VL.vSplit, VL.vJoin, VL.itemsOf, VL.gTuple, VL.gList, VL.vApp, VL.chg, VL.notIn, VL.gIxK, VL.gInK, VL.lookD, VL.vAug, ev, eqD_int, nP]) (fun _ => e_step hok hp (by decide) (by decide) (by decide) i0) (fun _ => ⟨_, rfl, up (by decide) i0⟩) fun e1 i1 => ?_
  obtain ⟨g0, g1', g2, g3, g5, t4, t6, t7, t8, rs, rfl, q2, q3⟩ := i1
  have i1 : IL4 ns p ms 121 [some (g0, .scr ns), some (g1', .lst p), some (g2, .lst (ms.map Mv.d)), some (g3, .lst (rs.map rowD)), t4, some (g5, .str (textR (ms.map rowOf))), t6, t7, t8, none, none, none] := ⟨g0, g1', g2, g3, g5, t4, t6, t7, t8, rs, rfl, q2, q3⟩
  refine En.seqIf (Q := IL4 ns p ms 122) (decide (v % 4 = 3)) (by simp [VL.vDef, VL.env0, VL.vSeq, VL.vSet, VL.put, VL.frz, VL.thaw, VL.vName, VL.nrm, VL.noMut, VL.noMutL, VL.v2, VL.v1, VL.vC, VL.gIC, VL.gI, VL.gAdd, VL.gMul, VL.cMul, VL.vCons, VL.vCall, VL.g1, VL.gInt, VL.gLen, VL.gAbs, VL.vRet, VL.vRetName, VL.vIfS, VL.tB_, VL.tV, VL.vLst, VL.vTup, VL.lstRv, VL.gridChild, VL.isFlat, VL.dsOf, VL.alOf, VL.mkL, VL.gCat, VL.gCatT, VL.gCatS, VL.gIx, VL.gIxA, VL.atD, VL.gEq, VL.gIsN, VL.gIsB, VL.gIsi, VL.isiD, VL.vAnd, VL.vOr, VL.vNot, VL.truD, VL.tNot_, VL.tAnd_, VL.tOr_, VL.vNeg, VL.vCallF, VL.frRv, VL.vFor, VL.loopV, VL.gN, VL.iRange1, VL.upTo, VL.rngOk, VL.gStr, VL.gStrC, VL.gIntA, VL.vSplit, VL.vJoin, VL.itemsOf, VL.gTuple, VL.gList, VL.vApp, VL.chg, VL.notIn, VL.gIxK, VL.gInK, VL.lookD, VL.vAug, ev, eqD_int, nP]) (fun _ => e_step hok hp (by decide) (by decide) (by decide) i1) (fun _ => ⟨_, rfl, up (by decide) i1⟩) fun e2 i2 => ?_
  exact k e2 ms hok hl (up (by decide) i2)
theorem pure_law : ∀ ns : List Int, ns.length ≤ 63 → (∀ z ∈ ns, PySem.Builtin.Int.intBits z ≤ 1048576) → ∃ l, c_law [.scr ns] = .ok (.bl true) l := fun ns hns _ => by
  obtain ⟨p, pl_, ep, hp⟩ := e_pool hns (n := 150) (by decide)
  have nP : noMutL p = true := noMutL_of fun d hd => by obtain ⟨i, rfl, _⟩ := hp.2 d hd; rfl
  obtain ⟨v0, e0, _⟩ := hp.at_ (i := 0) (by decide) (by decide)
  obtain ⟨v1, e1, _⟩ := hp.at_ (i := 1) (by decide) (by decide)
  have m0 : 0 ≤ v0 % 21 := Int.emod_nonneg _ (by decide)
  have m1 : v0 % 21 < 21 := Int.emod_lt_of_pos _ (by decide)
  obtain ⟨many, hmany⟩ := Int.eq_ofNat_of_zero_le m0
  obtain ⟨md, ml, em, ms, hmd, hml, hok, hml1⟩ := e_moves (start := 10) (many := many) hp (by decide) (by omega) (by omega)
  subst hmd
  have main : En (b_law [some (0, .scr ns), none, none, none, none, none, none, none, none, none, none, none]) fun r => ∃ l, r = .ret (.bl true) l := by
    unfold b_law
    have ep' : c_law_pool [.scr ns, .int 150] = .ok (.lst p) pl_ := ep
    refine En.seq (e := [some (0, .scr ns), some (pl_, .lst p), none, none, none, none, none, none, none, none, none, none]) (by simp [VL.vDef, VL.env0, VL.vSeq, VL.vSet, VL.put, VL.frz, VL.thaw, VL.vName, VL.nrm, VL.noMut, VL.noMutL, VL.v2, VL.v1, VL.vC, VL.gIC, VL.gI, VL.gAdd, VL.gMul, VL.cMul, VL.vCons, VL.vCall, VL.g1, VL.gInt, VL.gLen, VL.gAbs, VL.vRet, VL.vRetName, VL.vIfS, VL.tB_, VL.tV, VL.vLst, VL.vTup, VL.lstRv, VL.gridChild, VL.isFlat, VL.dsOf, VL.alOf, VL.mkL, VL.gCat, VL.gCatT, VL.gCatS, VL.gIx, VL.gIxA, VL.atD, VL.gEq, VL.gIsN, VL.gIsB, VL.gIsi, VL.isiD, VL.vAnd, VL.vOr, VL.vNot, VL.truD, VL.tNot_, VL.tAnd_, VL.tOr_, VL.vNeg, VL.vCallF, VL.frRv, VL.vFor, VL.loopV, VL.gN, VL.iRange1, VL.upTo, VL.rngOk, VL.gStr, VL.gStrC, VL.gIntA, VL.vSplit, VL.vJoin, VL.itemsOf, VL.gTuple, VL.gList, VL.vApp, VL.chg, VL.notIn, VL.gIxK, VL.gInK, VL.lookD, VL.vAug, ep']) ?_
    refine En.seq (e := [some (0, .scr ns), some (0, .lst p), some (ml, .lst (ms.map Mv.d)), none, none, none, none, none, none, none, none, none]) (by simp [VL.vDef, VL.env0, VL.vSeq, VL.vSet, VL.put, VL.frz, VL.thaw, VL.vName, VL.nrm, VL.noMut, VL.noMutL, VL.v2, VL.v1, VL.vC, VL.gIC, VL.gI, VL.gAdd, VL.gMul, VL.cMul, VL.vCons, VL.vCall, VL.g1, VL.gInt, VL.gLen, VL.gAbs, VL.vRet, VL.vRetName, VL.vIfS, VL.tB_, VL.tV, VL.vLst, VL.vTup, VL.lstRv, VL.gridChild, VL.isFlat, VL.dsOf, VL.alOf, VL.mkL, VL.gCat, VL.gCatT, VL.gCatS, VL.gIx, VL.gIxA, VL.atD, VL.gEq, VL.gIsN, VL.gIsB, VL.gIsi, VL.isiD, VL.vAnd, VL.vOr, VL.vNot, VL.truD, VL.tNot_, VL.tAnd_, VL.tOr_, VL.vNeg, VL.vCallF, VL.frRv, VL.vFor, VL.loopV, VL.gN, VL.iRange1, VL.upTo, VL.rngOk, VL.gStr, VL.gStrC, VL.gIntA, VL.vSplit, VL.vJoin, VL.itemsOf, VL.gTuple, VL.gList, VL.vApp, VL.chg, VL.notIn, VL.gIxK, VL.gInK, VL.lookD, VL.vAug, e0, hmany, em, nP]) ?_
    have i0 : IL ns p 20 [some (0, .scr ns), some (0, .lst p), some (ml, .lst (ms.map Mv.d)), none, none, none, none, none, none, none, none, none] := ⟨0, ml, ms, rfl, by omega, hok⟩
    refine En.seqIf (Q := IL ns p 20) (decide (v1 % 8 = 1)) (by simp [VL.vDef, VL.env0, VL.vSeq, VL.vSet, VL.put, VL.frz, VL.thaw, VL.vName, VL.nrm, VL.noMut, VL.noMutL, VL.v2, VL.v1, VL.vC, VL.gIC, VL.gI, VL.gAdd, VL.gMul, VL.cMul, VL.vCons, VL.vCall, VL.g1, VL.gInt, VL.gLen, VL.gAbs, VL.vRet, VL.vRetName, VL.vIfS, VL.tB_, VL.tV, VL.vLst, VL.vTup, VL.lstRv, VL.gridChild, VL.isFlat, VL.dsOf, VL.alOf, VL.mkL, VL.gCat, VL.gCatT, VL.gCatS, VL.gIx, VL.gIxA, VL.atD, VL.gEq, VL.gIsN, VL.gIsB, VL.gIsi, VL.isiD, VL.vAnd, VL.vOr, VL.vNot, VL.truD, VL.tNot_, VL.tAnd_, VL.tOr_, VL.vNeg, VL.vCallF, VL.frRv, VL.vFor, VL.loopV, VL.gN, VL.iRange1, VL.upTo, VL.rngOk, VL.gStr, VL.gStrC, VL.gIntA, VL.vSplit, VL.vJoin, VL.itemsOf, VL.gTuple, VL.gList, VL.vApp, VL.chg, VL.notIn, VL.gIxK, VL.gInK, VL.lookD, VL.vAug, e1, eqD_int, nP]) (fun _ => ⟨_, by (simp [VL.vDef, VL.env0, VL.vSeq, VL.vSet, VL.put, VL.frz, VL.thaw, VL.vName, VL.nrm, VL.noMut, VL.noMutL, VL.v2, VL.v1, VL.vC, VL.gIC, VL.gI, VL.gAdd, VL.gMul, VL.cMul, VL.vCons, VL.vCall, VL.g1, VL.gInt, VL.gLen, VL.gAbs, VL.vRet, VL.vRetName, VL.vIfS, VL.tB_, VL.tV, VL.vLst, VL.vTup, VL.lstRv, VL.gridChild, VL.isFlat, VL.dsOf, VL.alOf, VL.mkL, VL.gCat, VL.gCatT, VL.gCatS, VL.gIx, VL.gIxA, VL.atD, VL.gEq, VL.gIsN, VL.gIsB, VL.gIsi, VL.isiD, VL.vAnd, VL.vOr, VL.vNot, VL.truD, VL.tNot_, VL.tAnd_, VL.tOr_, VL.vNeg, VL.vCallF, VL.frRv, VL.vFor, VL.loopV, VL.gN, VL.iRange1, VL.upTo, VL.rngOk, VL.vComp, VL.compV, VL.compRv, VL.wipeE, VL.iSeq, VL.itemsD, VL.gStr, VL.gStrC, VL.gIntA, VL.vSplit, VL.vJoin, VL.itemsOf, VL.gTuple, VL.gList, VL.vApp, VL.chg, VL.notIn, VL.gIxK, VL.gInK, VL.lookD, VL.vAug] <;> first | exact rfl | exact ⟨rfl, rfl⟩ | exact ⟨rfl, rfl, rfl⟩), 0, 2, [], rfl, by decide, fun _ z => by cases z⟩) (fun _ => ⟨_, rfl, i0⟩) fun e2 i2 => ?_
    obtain ⟨f1, f2, ms2, rfl, hl2, hok2⟩ := i2
    have hlx : ms2.length * 6 ≤ 16777216 := by omega
    have nmv := noMutL_mv ms2
    have rep : repD 6 (ms2.map Mv.d) = ((List.replicate 6 ms2).flatten).map Mv.d := by
      unfold repD
      rw [List.map_flatten, List.map_replicate]
    have nmr : noMutL (repD 6 (ms2.map Mv.d)) = true := by rw [rep]; exact noMutL_mv _
    refine En.seqIf (Q := IL ns p 120) (decide (v1 % 16 = 2)) (by simp [VL.vDef, VL.env0, VL.vSeq, VL.vSet, VL.put, VL.frz, VL.thaw, VL.vName, VL.nrm, VL.noMut, VL.noMutL, VL.v2, VL.v1, VL.vC, VL.gIC, VL.gI, VL.gAdd, VL.gMul, VL.cMul, VL.vCons, VL.vCall, VL.g1, VL.gInt, VL.gLen, VL.gAbs, VL.vRet, VL.vRetName, VL.vIfS, VL.tB_, VL.tV, VL.vLst, VL.vTup, VL.lstRv, VL.gridChild, VL.isFlat, VL.dsOf, VL.alOf, VL.mkL, VL.gCat, VL.gCatT, VL.gCatS, VL.gIx, VL.gIxA, VL.atD, VL.gEq, VL.gIsN, VL.gIsB, VL.gIsi, VL.isiD, VL.vAnd, VL.vOr, VL.vNot, VL.truD, VL.tNot_, VL.tAnd_, VL.tOr_, VL.vNeg, VL.vCallF, VL.frRv, VL.vFor, VL.loopV, VL.gN, VL.iRange1, VL.upTo, VL.rngOk, VL.gStr, VL.gStrC, VL.gIntA, VL.vSplit, VL.vJoin, VL.itemsOf, VL.gTuple, VL.gList, VL.vApp, VL.chg, VL.notIn, VL.gIxK, VL.gInK, VL.lookD, VL.vAug, e1, eqD_int, nP]) (fun _ => ?_) (fun _ => ⟨_, rfl, f1, f2, ms2, rfl, by omega, hok2⟩) fun e3 i3 => ?_
    · refine ⟨[some (0, .scr ns), some (f1, .lst p), some (2, .lst (repD 6 (ms2.map Mv.d))), none, none, none, none, none, none, none, none, none], by simp [VL.vDef, VL.env0, VL.vSeq, VL.vSet, VL.put, VL.frz, VL.thaw, VL.vName, VL.nrm, VL.noMut, VL.noMutL, VL.v2, VL.v1, VL.vC, VL.gIC, VL.gI, VL.gAdd, VL.gMul, VL.cMul, VL.vCons, VL.vCall, VL.g1, VL.gInt, VL.gLen, VL.gAbs, VL.vRet, VL.vRetName, VL.vIfS, VL.tB_, VL.tV, VL.vLst, VL.vTup, VL.lstRv, VL.gridChild, VL.isFlat, VL.dsOf, VL.alOf, VL.mkL, VL.gCat, VL.gCatT, VL.gCatS, VL.gIx, VL.gIxA, VL.atD, VL.gEq, VL.gIsN, VL.gIsB, VL.gIsi, VL.isiD, VL.vAnd, VL.vOr, VL.vNot, VL.truD, VL.tNot_, VL.tAnd_, VL.tOr_, VL.vNeg, VL.vCallF, VL.frRv, VL.vFor, VL.loopV, VL.gN, VL.iRange1, VL.upTo, VL.rngOk, VL.gStr, VL.gStrC, VL.gIntA, VL.vSplit, VL.vJoin, VL.itemsOf, VL.gTuple, VL.gList, VL.vApp, VL.chg, VL.notIn, VL.gIxK, VL.gInK, VL.lookD, VL.vAug, gRep, hlx, nmr], f1, 2, (List.replicate 6 ms2).flatten, by rw [rep], ?_, fun m hm => ?_⟩
      · rw [List.length_flatten, List.map_replicate, List.sum_replicate_nat]; omega
      · obtain ⟨l, hl, hm⟩ := List.mem_flatten.mp hm
        have := (List.mem_replicate.mp hl).2
        rw [this] at hm
        exact hok2 m hm
    exact e_law_one i3 fun e4 i4 => e_law_two i4 fun e5 i5 => e_law_three hp i5 fun e6 ms6 ok6 l6 i6 => e_law_last ok6 l6 i6
  obtain ⟨l, h⟩ := main
  exact ⟨l, def_ret h⟩
end VL

open PySem PySem.W PyProof.Rows in
set_option maxRecDepth 100000 in
set_option maxHeartbeats 0 in
theorem PySem.Challenge.cw_fullhands_k13_run_text_back_holds : PySem.Challenge.rw_fullhands_k13_run_text_back.Holds := by
  w_on; o_law; k_head; (case hw => w_witness2)
  k_fill
  refine VL.walk (l := PySem.Challenge.rw_fullhands_k13_run_text_back) (k := 9) rfl rfl ⟨rfl, by decide, by decide⟩ (fun w h Y => PySem.W.kIn_of Y) ?F
  case F =>
    intro w mg fa h KX G hmg
    refine' VL.all_mk KX G hmg ?z_ValueError ?z_abs ?z_all ?z_bool ?z_enumerate ?z_int ?z_isinstance ?z_len ?z_list ?z_range ?z_str ?z_tuple ?a_FullhandsError ?a_BadTable ?a_BadText ?a_BadStanding ?a_CannotMove ?a_NoSuch ?a_WrongGround ?a_TooGreat ?a_BadVector ?a_NotLocal ?a_BadProgram ?a_InUse ?a_AttemptFailed ?a_BadLot ?a_BadDealing ?a_NotCore ?a_BadLoads ?a_Impossible ?a_BadLine ?a_NothingToUndo ?a_NothingToRedo ?o_BadText ?n_BadText ?i_BadText ?t_BadText ?l_init_BadText ?cc_init_BadText ?k_init_BadText ?r_ValueError ?r_BadText ?m_BadText ?m_FullhandsError ?rT_Attled_Bading_Badine_Badads_BadLot_Badram_Bading_Badble_Badtor_Canove_Impble_InUUse_NoSuch_Notore_Notcal_Notedo_Notndo_Tooeat_Wround ?a_FORMS ?dw_FORMS ?dv_FORMS ?a_law_mixed ?l_law_mixed ?cc_law_mixed ?k_law_mixed ?a_law_pool ?l_law_pool ?cc_law_pool ?k_law_pool ?a_law_moves ?l_law_moves ?cc_law_moves ?k_law_moves ?a_law_joined_rows ?l_law_joined_rows ?cc_law_joined_rows ?k_law_joined_rows ?a_is_number ?l_is_number ?cc_is_number ?k_is_number ?a_read_numbers ?l_read_numbers ?cc_read_numbers ?k_read_numbers ?a_read_move ?l_read_move ?cc_read_move ?k_read_move ?a_read_run ?l_read_run ?cc_read_run ?k_read_run ?a_law_same ?l_law_same ?cc_law_same ?k_law_same ?a_law_bad_words ?l_law_bad_words ?cc_law_bad_words ?k_law_bad_words ?a_law_changed ?l_law_changed ?cc_law_changed ?k_law_changed ?a_law_read ?l_law_read ?cc_law_read ?k_law_read ?a_law_words ?l_law_words ?cc_law_words ?k_law_words ?a_law_pure ?l_law_pure ?cc_law_pure ?k_law_pure ?a_join_words ?l_join_words ?cc_join_words ?k_join_words ?a_run_text ?l_run_text ?cc_run_text ?k_run_text ?a_law ?l_law ?cc_law ?k_law ?pure
    (case z_ValueError => k_is)
    (case z_abs => k_is)
    (case z_all => k_is)
    (case z_bool => k_is)
    (case z_enumerate => k_is)
    (case z_int => k_is)
    (case z_isinstance => k_is)
    (case z_len => k_is)
    (case z_list => k_is)
    (case z_range => k_is)
    (case z_str => k_is)
    (case z_tuple => k_is)
    (case a_FullhandsError => k_is)
    (case a_BadTable => k_is)
    (case a_BadText => k_is)
    (case a_BadStanding => k_is)
    (case a_CannotMove => k_is)
    (case a_NoSuch => k_is)
    (case a_WrongGround => k_is)
    (case a_TooGreat => k_is)
    (case a_BadVector => k_is)
    (case a_NotLocal => k_is)
    (case a_BadProgram => k_is)
    (case a_InUse => k_is)
    (case a_AttemptFailed => k_is)
    (case a_BadLot => k_is)
    (case a_BadDealing => k_is)
    (case a_NotCore => k_is)
    (case a_BadLoads => k_is)
    (case a_Impossible => k_is)
    (case a_BadLine => k_is)
    (case a_NothingToUndo => k_is)
    (case a_NothingToRedo => k_is)
    (case o_BadText => kernel_rfl)
    (case n_BadText => kernel_rfl)
    (case i_BadText => k_is)
    (case t_BadText => k_is)
    (case l_init_BadText => k_is)
    (case cc_init_BadText => k_is)
    (case k_init_BadText => k_is)
    (case r_ValueError => kernel_rfl)
    (case r_BadText => kernel_rfl)
    (case m_BadText => kernel_rfl)
    (case m_FullhandsError => kernel_rfl)
    (case rT_Attled_Bading_Badine_Badads_BadLot_Badram_Bading_Badble_Badtor_Canove_Impble_InUUse_NoSuch_Notore_Notcal_Notedo_Notndo_Tooeat_Wround => kernel_rfl)
    (case a_FORMS => k_is)
    (case dw_FORMS => kernel_rfl)
    (case dv_FORMS => kernel_rfl)
    (case a_law_mixed => k_is)
    (case l_law_mixed => k_is)
    (case cc_law_mixed => k_is)
    (case k_law_mixed => k_is)
    (case a_law_pool => k_is)
    (case l_law_pool => k_is)
    (case cc_law_pool => k_is)
    (case k_law_pool => k_is)
    (case a_law_moves => k_is)
    (case l_law_moves => k_is)
    (case cc_law_moves => k_is)
    (case k_law_moves => k_is)
    (case a_law_joined_rows => k_is)
    (case l_law_joined_rows => k_is)
    (case cc_law_joined_rows => k_is)
    (case k_law_joined_rows => k_is)
    (case a_is_number => k_is)
    (case l_is_number => k_is)
    (case cc_is_number => k_is)
    (case k_is_number => k_is)
    (case a_read_numbers => k_is)
    (case l_read_numbers => k_is)
    (case cc_read_numbers => k_is)
    (case k_read_numbers => k_is)
    (case a_read_move => k_is)
    (case l_read_move => k_is)
    (case cc_read_move => k_is)
    (case k_read_move => k_is)
    (case a_read_run => k_is)
    (case l_read_run => k_is)
    (case cc_read_run => k_is)
    (case k_read_run => k_is)
    (case a_law_same => k_is)
    (case l_law_same => k_is)
    (case cc_law_same => k_is)
    (case k_law_same => k_is)
    (case a_law_bad_words => k_is)
    (case l_law_bad_words => k_is)
    (case cc_law_bad_words => k_is)
    (case k_law_bad_words => k_is)
    (case a_law_changed => k_is)
    (case l_law_changed => k_is)
    (case cc_law_changed => k_is)
    (case k_law_changed => k_is)
    (case a_law_read => k_is)
    (case l_law_read => k_is)
    (case cc_law_read => k_is)
    (case k_law_read => k_is)
    (case a_law_words => k_is)
    (case l_law_words => k_is)
    (case cc_law_words => k_is)
    (case k_law_words => k_is)
    (case a_law_pure => k_is)
    (case l_law_pure => k_is)
    (case cc_law_pure => k_is)
    (case k_law_pure => k_is)
    (case a_join_words => k_is)
    (case l_join_words => k_is)
    (case cc_join_words => k_is)
    (case k_join_words => k_is)
    (case a_run_text => k_is)
    (case l_run_text => k_is)
    (case cc_run_text => k_is)
    (case k_run_text => k_is)
    (case a_law => k_is)
    (case l_law => k_is)
    (case cc_law => k_is)
    (case k_law => k_is)
    (case pure => exact VL.pure_law)
#print axioms PySem.Challenge.cw_fullhands_k13_run_text_back_holds

