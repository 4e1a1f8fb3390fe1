import PyProof.Rows.All
import Wide.All
import OpenK.AllK
import Wide.FinOn
import HandS.Base
import HandS.Call
import HandS.List
import HandS.Comp
import HandS.Words
import HandS.Iter
import HandS.Exc
import HandS.ExcOwn
import HandS.WordsExc
import HandS.Dict
import HandS.Wide
import HandS.Text
import KE.DataEq
import HandS.Flow
import HandS.Conv
import HandS.Codes
import KE.DataMinMax
import HandS.WordsDict
import HandS.ForSpec
import KE.OsGo
import KE.KDictDisplayH
import HandS.Ends
import PyProof.ReprRoads
import PyProof.Rows.RegFStrParts
import PyProof.Rows.ReprShort
import HandS.ExcIs
import HandS.ExcValue
import HandS.ExcInit
import HandS.MakeKwOnly
import HandS.IsInst
import KE.KExcIs
import KE.KIsAll
import HandS.More
import HandS.SetFor
import HandS.StrMore
import HandS.FStr
import HandS.HotCalls
import PyProof.StrBlock2
import HandS.Replace
import KE.GoesEnumKw
import KE.GoesNew
import HandS.Style
import HandS.NoneIn
import HandS.DictTup
import KE.GoesNewDict
import HandS.Gcd
import KE.KTupSum
import HandS.Zip
import PyProof.DictTruth
import HandS.Sort
import PyProof.SumWalkG
import HandS.WideBits
import HandS.Rev
import HandS.RevRange
import HandS.Flt
import HandS.RevTup
import PyProof.ListStr
import PyProof.StrLawsOcc
import PySem.Challenge.RW_winbytwo_k45_lines_of_strings
set_option Elab.async false
set_option linter.all false
set_option maxRecDepth 100000
namespace TT
open PySem PySem.Spec PyProof.Rows L2

inductive D where
  | non
  | bl (b : Bool)
  | int (i : Int)
  | str (x : Str)
  | tup (ds : List D)
  | lst (own : Bool) (ds : List D)
  | dct (own : Bool) (ks : List Key) (ds : List D)
  /-- a dict whose keys are tuples of ints and texts -/
  | dcT (own : Bool) (ks : List (List Key)) (ds : List D)
  | bag
  /-- the script -/
  | scr (ns : List Int)
  /-- an exception that a suite holds: its place, its dict's, its value -/
  | exc (a dd : Addr) (d : D)
  /-- an error of a class of the program's own: the class's name, its value -/
  | err (cx : Str) (d : D)

/-- a list that nothing changes: frozen, or one of the library's own -/
def ScrAt (K : PySem.W.Frag) (H : Hp) (a : Addr) (xs : List V) : Prop := (∃ o, H a = some (.frz o (.lst xs))) ∨ ∃ (o : Obj) (its : Array Value) (n : Nat), List.lookup a K = some o ∧ o.cls = .type "list" ∧ o.dict = none ∧ o.data = .seq its n ∧ its.size ≤ sizeLine ∧ Vals xs its.toList
theorem ScrAt.sql {K : PySem.W.Frag} {H : Hp} {a : Addr} {xs : List V} (h : ScrAt K H a xs) : SqL K H a xs := h.elim (fun ⟨o, e⟩ => .inl (.inr ⟨o, e⟩)) .inr
theorem ScrAt.keep {K : PySem.W.Frag} {H H' : Hp} {a : Addr} {xs : List V} (h : ScrAt K H a xs) (k : ∀ o, H a = some (.frz o (.lst xs)) → H' a = some (.frz o (.lst xs))) : ScrAt K H' a xs := h.elim (fun ⟨o, e⟩ => .inl ⟨o, k o e⟩) .inr
theorem ScrAt.of {K : PySem.W.Frag} {H : Hp} {a : Addr} {xs : List V} (h : SqL K H a xs) (n : ∀ xs, H a ≠ some (.lst xs)) : ScrAt K H a xs := by
  rcases h with (h | h) | h
  · exact absurd h (n _)
  · exact .inl h
  · exact .inr h
abbrev Zs := Addr → Prop
/-- an error's own object: its class at C, its dict at dd -/
def ErO (C a dd : Addr) : HO := .ext fun h => ∃ oe vs, h.get? a = some oe ∧ oe.cls = .ref C ∧ oe.dict = some dd ∧ oe.data = .fields vs
/-- the name of the class at C -/
def cnm (K : PySem.W.Frag) (C : Addr) : Option Str := (PySem.W.clsIn K C).map (·.name)
/-- kinds of bags: a dict with a list; a list of three numbers; a list of a list and three numbers -/
inductive BK where
  | dict
  | three
  | four
abbrev Bg := Option (BK × Addr × Addr)
def inB (G : Bg) (a : Addr) : Prop := match G with
  | none => False
  | some (_, b, q) => a = b ∨ a = q

mutual
def frz : D → D
  | .tup ds => .tup (frzL ds)
  | .lst _ ds => .lst false (frzL ds)
  | .dct _ ks ds => .dct false ks (frzL ds)
  | .dcT _ ks ds => .dcT false ks (frzL ds)
  | .non => .non
  | .bl b => .bl b
  | .int i => .int i
  | .str x => .str x
  | .bag => .bag
  | .scr ns => .scr ns
  | .exc a dd d => .exc a dd (frz d)
  | .err cx d => .err cx (frz d)
def frzL : List D → List D
  | [] => []
  | d :: ds => frz d :: frzL ds
end
mutual
/-- every mutable part is one's own -/
def ow : D → Bool
  | .tup ds => owL ds
  | .lst o ds => o && owL ds
  | .dct o _ ds => o && owL ds
  | .dcT o _ ds => o && owL ds
  | .exc _ _ _ => false
  | .err _ _ => false
  | _ => true
def owL : List D → Bool
  | [] => true
  | d :: ds => ow d && owL ds
end
section
variable (K : PySem.W.Frag) (G : Bg) (Z : Zs) (H : Hp)
mutual
def Rp : D → V → List Addr → Prop
  | .non, v, fp => v = .non ∧ fp = []
  | .bl b, v, fp => v = .bl b ∧ fp = []
  | .int i, v, fp => v = .int i ∧ fp = []
  | .str x, v, fp => v = .str x ∧ fp = []
  | .tup ds, v, fp => ∃ a vs, v = .ref a ∧ H a = some (.tup vs) ∧ RpL ds vs fp
  | .lst true ds, v, fp => ∃ a vs fp', v = .ref a ∧ H a = some (.lst vs) ∧ RpL ds vs fp' ∧ fp = a :: fp'
  | .lst false ds, v, fp => ∃ a vs, v = .ref a ∧ H a = some (.lst vs) ∧ Z a ∧ RpL ds vs [] ∧ fp = []
  | .dct true ks ds, v, fp => ∃ a vs fp', v = .ref a ∧ H a = some (.dK (ks.zip vs)) ∧ ks.length = vs.length ∧ RpL ds vs fp' ∧ fp = a :: fp'
  | .dct false ks ds, v, fp => ∃ a vs, v = .ref a ∧ H a = some (.dK (ks.zip vs)) ∧ ks.length = vs.length ∧ Z a ∧ RpL ds vs [] ∧ fp = []
  | .dcT true ks ds, v, fp => ∃ a vs fp', v = .ref a ∧ H a = some (.dT (ks.zip vs)) ∧ (ks.length = vs.length ∧ ks.Nodup) ∧ RpL ds vs fp' ∧ fp = a :: fp'
  | .dcT false ks ds, v, fp => ∃ a vs, v = .ref a ∧ Rd H a (.dT (ks.zip vs)) ∧ (ks.length = vs.length ∧ ks.Nodup) ∧ Z a ∧ RpL ds vs [] ∧ fp = []
  | .bag, v, fp => (∃ k b q, G = some (k, b, q) ∧ v = .ref b) ∧ fp = []
  | .scr ns, v, fp => (∃ a, v = .ref a ∧ ScrAt K H a (ns.map V.int)) ∧ fp = []
  | .exc a dd d, v, fp => v = .ref a ∧ fp = [] ∧ ∃ u, H dd = some (.xd [("value", u)]) ∧ Rp d u []
  | .err cx d, v, fp => ∃ a C dd u, v = .ref a ∧ cnm K C = some cx ∧ H a = some (ErO C a dd) ∧ Z a ∧ H dd = some (.xd [("value", u)]) ∧ Rp d u [] ∧ fp = []
def RpL : List D → List V → List Addr → Prop
  | [], vs, fp => vs = [] ∧ fp = []
  | d :: ds, vs, fp => ∃ v vs' f1 f2, vs = v :: vs' ∧ Rp d v f1 ∧ RpL ds vs' f2 ∧ fp = f1 ++ f2
end
end

section
variable {K : PySem.W.Frag} {G : Bg} {Z Z' : Zs} {H H' : Hp}

theorem rdKeep {a : Addr} {u : HO} (h : Rd H a u) (k : ∀ o, H a = some o → H' a = some o) : Rd H' a u := by
  rcases h with h | ⟨o, h⟩
  · exact .inl (k _ h)
  · exact .inr ⟨o, k _ h⟩
theorem sqtKeep {a : Addr} {xs : List V} (h : SqT K H a xs) (k : ∀ o, H a = some o → ¬ Mut (some o) → H' a = some o) : SqT K H' a xs := by
  rcases h with (h | ⟨o, h⟩) | h
  · exact .inl (.inl (k _ h fun z => z))
  · exact .inl (.inr ⟨o, k _ h fun z => z⟩)
  · exact .inr h
mutual
theorem Rp.keep (zz : ∀ a, Z a → Z' a) : ∀ (d : D) (v : V) (fp : List Addr), (∀ a o, H a = some o → (¬ Mut (some o) ∨ Z a ∨ a ∈ fp) → H' a = some o) → Rp K G Z H d v fp → Rp K G Z' H' d v fp
  | .non, v, fp, k, h => h
  | .bl b, v, fp, k, h => h
  | .int i, v, fp, k, h => h
  | .str x, v, fp, k, h => h
  | .bag, v, fp, k, h => h
  | .scr ns, v, fp, k, ⟨⟨a, e, s⟩, ef⟩ => ⟨⟨a, e, s.keep fun _ h => k a _ h (.inl fun z => z)⟩, ef⟩
  | .exc a dd d, v, fp, k, ⟨e, ef, u, h, r⟩ => by
    subst ef
    exact ⟨e, rfl, u, k dd _ h (.inl fun z => z), Rp.keep zz d u [] k r⟩
  | .err cx d, v, fp, k, ⟨a, C, dd, u, e, c, s, z, h, r, ef⟩ => by
    subst ef
    exact ⟨a, C, dd, u, e, c, k a _ s (.inr (.inl z)), zz a z, k dd _ h (.inl fun z => z), Rp.keep zz d u [] k r, rfl⟩
  | .tup ds, v, fp, k, ⟨a, vs, e, s, r⟩ => ⟨a, vs, e, k a _ s (.inl fun z => z), RpL.keep zz ds vs fp k r⟩
  | .lst true ds, v, fp, k, ⟨a, vs, fp', e, s, r, ef⟩ => by
    subst ef
    exact ⟨a, vs, fp', e, k a _ s (.inr (.inr List.mem_cons_self)), RpL.keep zz ds vs fp' (fun b o h c => k b o h (c.elim .inl fun c => .inr (c.elim .inl fun c => .inr (List.mem_cons_of_mem _ c)))) r, rfl⟩
  | .lst false ds, v, fp, k, ⟨a, vs, e, s, z, r, ef⟩ => by
    subst ef
    exact ⟨a, vs, e, k a _ s (.inr (.inl z)), zz a z, RpL.keep zz ds vs [] k r, rfl⟩
  | .dct true ks ds, v, fp, k, ⟨a, vs, fp', e, s, l, r, ef⟩ => by
    subst ef
    exact ⟨a, vs, fp', e, k a _ s (.inr (.inr List.mem_cons_self)), l, RpL.keep zz ds vs fp' (fun b o h c => k b o h (c.elim .inl fun c => .inr (c.elim .inl fun c => .inr (List.mem_cons_of_mem _ c)))) r, rfl⟩
  | .dcT true ks ds, v, fp, k, ⟨a, vs, fp', e, s, l, r, ef⟩ => by
    subst ef
    exact ⟨a, vs, fp', e, k a _ s (.inr (.inr List.mem_cons_self)), l, RpL.keep zz ds vs fp' (fun b o h c => k b o h (c.elim .inl fun c => .inr (c.elim .inl fun c => .inr (List.mem_cons_of_mem _ c)))) r, rfl⟩
  | .dct false ks ds, v, fp, k, ⟨a, vs, e, s, l, z, r, ef⟩ => by
    subst ef
    exact ⟨a, vs, e, k a _ s (.inr (.inl z)), l, zz a z, RpL.keep zz ds vs [] k r, rfl⟩
  | .dcT false ks ds, v, fp, k, ⟨a, vs, e, s, l, z, r, ef⟩ => by
    subst ef
    exact ⟨a, vs, e, rdKeep s fun o h => k a o h (.inr (.inl z)), l, zz a z, RpL.keep zz ds vs [] k r, rfl⟩
theorem RpL.keep (zz : ∀ a, Z a → Z' a) : ∀ (ds : List D) (vs : List V) (fp : List Addr), (∀ a o, H a = some o → (¬ Mut (some o) ∨ Z a ∨ a ∈ fp) → H' a = some o) → RpL K G Z H ds vs fp → RpL K G Z' H' ds vs fp
  | [], vs, fp, k, h => h
  | d :: ds, vs, fp, k, ⟨v, vs', f1, f2, e, r, rs, ef⟩ => by
    subst ef
    exact ⟨v, vs', f1, f2, e, Rp.keep zz d v f1 (fun b o h c => k b o h (c.elim .inl fun c => .inr (c.elim .inl fun c => .inr (List.mem_append_left _ c)))) r,
      RpL.keep zz ds vs' f2 (fun b o h c => k b o h (c.elim .inl fun c => .inr (c.elim .inl fun c => .inr (List.mem_append_right _ c)))) rs, rfl⟩
end
/-! own -/
mutual
theorem Rp.ownz : ∀ (d : D) (v : V) (fp : List Addr), ow d = true → Rp K G Z H d v fp → Rp K G Z' H d v fp
  | .non, v, fp, o, h => h
  | .bl b, v, fp, o, h => h
  | .int i, v, fp, o, h => h
  | .str x, v, fp, o, h => h
  | .bag, v, fp, o, h => h
  | .scr ns, v, fp, o, h => h
  | .exc a dd d, v, fp, o, h => by cases o
  | .err cx d, v, fp, o, h => by cases o
  | .tup ds, v, fp, o, ⟨a, vs, e, s, r⟩ => ⟨a, vs, e, s, RpL.ownz ds vs fp o r⟩
  | .lst true ds, v, fp, o, ⟨a, vs, fp', e, s, r, ef⟩ => ⟨a, vs, fp', e, s, RpL.ownz ds vs fp' o r, ef⟩
  | .lst false ds, v, fp, o, h => by cases o
  | .dct true ks ds, v, fp, o, ⟨a, vs, fp', e, s, l, r, ef⟩ => ⟨a, vs, fp', e, s, l, RpL.ownz ds vs fp' o r, ef⟩
  | .dcT true ks ds, v, fp, o, ⟨a, vs, fp', e, s, l, r, ef⟩ => ⟨a, vs, fp', e, s, l, RpL.ownz ds vs fp' o r, ef⟩
  | .dct false ks ds, v, fp, o, h => by cases o
  | .dcT false ks ds, v, fp, o, h => by cases o
theorem RpL.ownz : ∀ (ds : List D) (vs : List V) (fp : List Addr), owL ds = true → RpL K G Z H ds vs fp → RpL K G Z' H ds vs fp
  | [], vs, fp, o, h => h
  | d :: ds, vs, fp, o, ⟨v, vs', f1, f2, e, r, rs, ef⟩ => by
    have o2 : (ow d && owL ds) = true := o
    rw [Bool.and_eq_true] at o2
    exact ⟨v, vs', f1, f2, e, Rp.ownz d v f1 o2.1 r, RpL.ownz ds vs' f2 o2.2 rs, ef⟩
end
/-! shared -/
mutual
theorem Rp.frz (zz : ∀ a, Z a → Z' a) : ∀ (d : D) (v : V) (fp : List Addr), (∀ a ∈ fp, Z' a) → Rp K G Z H d v fp → Rp K G Z' H (frz d) v []
  | .non, v, fp, k, h => ⟨h.1, rfl⟩
  | .bl b, v, fp, k, h => ⟨h.1, rfl⟩
  | .int i, v, fp, k, h => ⟨h.1, rfl⟩
  | .str x, v, fp, k, h => ⟨h.1, rfl⟩
  | .bag, v, fp, k, h => ⟨h.1, rfl⟩
  | .scr ns, v, fp, k, h => ⟨h.1, rfl⟩
  | .exc a dd d, v, fp, k, ⟨e, ef, u, h, r⟩ => ⟨e, rfl, u, h, Rp.frz zz d u [] (fun _ m => nomatch m) r⟩
  | .err cx d, v, fp, k, ⟨a, C, dd, u, e, c, s, z, h, r, ef⟩ => ⟨a, C, dd, u, e, c, s, zz a z, h, Rp.frz zz d u [] (fun _ m => nomatch m) r, rfl⟩
  | .tup ds, v, fp, k, ⟨a, vs, e, s, r⟩ => ⟨a, vs, e, s, RpL.frz zz ds vs fp k r⟩
  | .lst true ds, v, fp, k, ⟨a, vs, fp', e, s, r, ef⟩ => by
    subst ef
    exact ⟨a, vs, e, s, k a List.mem_cons_self, RpL.frz zz ds vs fp' (fun b c => k b (List.mem_cons_of_mem _ c)) r, rfl⟩
  | .lst false ds, v, fp, k, ⟨a, vs, e, s, z, r, ef⟩ => ⟨a, vs, e, s, zz a z, RpL.frz zz ds vs [] (fun b c => nomatch c) r, rfl⟩
  | .dct true ks ds, v, fp, k, ⟨a, vs, fp', e, s, l, r, ef⟩ => by
    subst ef
    exact ⟨a, vs, e, s, l, k a List.mem_cons_self, RpL.frz zz ds vs fp' (fun b c => k b (List.mem_cons_of_mem _ c)) r, rfl⟩
  | .dcT true ks ds, v, fp, k, ⟨a, vs, fp', e, s, l, r, ef⟩ => by
    subst ef
    exact ⟨a, vs, e, .inl s, l, k a List.mem_cons_self, RpL.frz zz ds vs fp' (fun b c => k b (List.mem_cons_of_mem _ c)) r, rfl⟩
  | .dct false ks ds, v, fp, k, ⟨a, vs, e, s, l, z, r, ef⟩ => ⟨a, vs, e, s, l, zz a z, RpL.frz zz ds vs [] (fun b c => nomatch c) r, rfl⟩
  | .dcT false ks ds, v, fp, k, ⟨a, vs, e, s, l, z, r, ef⟩ => ⟨a, vs, e, s, l, zz a z, RpL.frz zz ds vs [] (fun b c => nomatch c) r, rfl⟩
theorem RpL.frz (zz : ∀ a, Z a → Z' a) : ∀ (ds : List D) (vs : List V) (fp : List Addr), (∀ a ∈ fp, Z' a) → RpL K G Z H ds vs fp → RpL K G Z' H (frzL ds) vs []
  | [], vs, fp, k, h => ⟨h.1, rfl⟩
  | d :: ds, vs, fp, k, ⟨v, vs', f1, f2, e, r, rs, ef⟩ => by
    subst ef
    exact ⟨v, vs', [], [], e, Rp.frz zz d v f1 (fun a c => k a (List.mem_append_left _ c)) r, RpL.frz zz ds vs' f2 (fun a c => k a (List.mem_append_right _ c)) rs, rfl⟩
end
/-! places -/
mutual
theorem Rp.fpMut : ∀ (d : D) (v : V) (fp : List Addr), Rp K G Z H d v fp → ∀ a ∈ fp, ∃ o, H a = some o ∧ Mut (some o)
  | .non, v, fp, h, a, m => by rw [h.2] at m; cases m
  | .bl b, v, fp, h, a, m => by rw [h.2] at m; cases m
  | .int i, v, fp, h, a, m => by rw [h.2] at m; cases m
  | .str x, v, fp, h, a, m => by rw [h.2] at m; cases m
  | .bag, v, fp, h, a, m => by rw [h.2] at m; cases m
  | .scr ns, v, fp, h, a, m => by rw [h.2] at m; cases m
  | .exc _ _ _, v, fp, h, a, m => by rw [h.2.1] at m; cases m
  | .err cx d, v, fp, ⟨_, C, dd, u, e, c, s, z, h, r, ef⟩, a, m => by rw [ef] at m; cases m
  | .tup ds, v, fp, ⟨_, vs, e, s, r⟩, a, m => RpL.fpMut ds vs fp r a m
  | .lst true ds, v, fp, ⟨b, vs, fp', e, s, r, ef⟩, a, m => by
    subst ef
    rcases List.mem_cons.mp m with m | m
    · subst m; exact ⟨_, s, trivial⟩
    · exact RpL.fpMut ds vs fp' r a m
  | .lst false ds, v, fp, ⟨b, vs, e, s, z, r, ef⟩, a, m => by rw [ef] at m; cases m
  | .dct true ks ds, v, fp, ⟨b, vs, fp', e, s, l, r, ef⟩, a, m => by
    subst ef
    rcases List.mem_cons.mp m with m | m
    · subst m; exact ⟨_, s, trivial⟩
    · exact RpL.fpMut ds vs fp' r a m
  | .dcT true ks ds, v, fp, ⟨b, vs, fp', e, s, l, r, ef⟩, a, m => by
    subst ef
    rcases List.mem_cons.mp m with m | m
    · subst m; exact ⟨_, s, trivial⟩
    · exact RpL.fpMut ds vs fp' r a m
  | .dct false ks ds, v, fp, ⟨b, vs, e, s, l, z, r, ef⟩, a, m => by rw [ef] at m; cases m
  | .dcT false ks ds, v, fp, ⟨b, vs, e, s, l, z, r, ef⟩, a, m => by rw [ef] at m; cases m
theorem RpL.fpMut : ∀ (ds : List D) (vs : List V) (fp : List Addr), RpL K G Z H ds vs fp → ∀ a ∈ fp, ∃ o, H a = some o ∧ Mut (some o)
  | [], vs, fp, h, a, m => by rw [h.2] at m; cases m
  | d :: ds, vs, fp, ⟨v, vs', f1, f2, e, r, rs, ef⟩, a, m => by
    subst ef
    rcases List.mem_append.mp m with m | m
    · exact Rp.fpMut d v f1 r a m
    · exact RpL.fpMut ds vs' f2 rs a m
end
mutual
theorem frz_frz : ∀ d, frz (frz d) = frz d
  | .non => rfl
  | .bl b => rfl
  | .int i => rfl
  | .str x => rfl
  | .bag => rfl
  | .scr ns => rfl
  | .exc a dd d => congrArg (D.exc a dd) (frz_frz d)
  | .err cx d => congrArg (D.err cx) (frz_frz d)
  | .tup ds => congrArg D.tup (frzL_frzL ds)
  | .lst _ ds => congrArg (D.lst false) (frzL_frzL ds)
  | .dct _ ks ds => congrArg (D.dct false ks) (frzL_frzL ds)
  | .dcT _ ks ds => congrArg (D.dcT false ks) (frzL_frzL ds)
theorem frzL_frzL : ∀ ds, frzL (frzL ds) = frzL ds
  | [] => rfl
  | d :: ds => by show frz (frz d) :: frzL (frzL ds) = frz d :: frzL ds; rw [frz_frz d, frzL_frzL ds]
end
theorem frzL_map : ∀ ds, frzL ds = ds.map frz
  | [] => rfl
  | d :: ds => congrArg _ (frzL_map ds)
theorem owL_all : ∀ ds, owL ds = ds.all ow
  | [] => rfl
  | d :: ds => congrArg _ (owL_all ds)
theorem RpL.len : ∀ {ds : List D} {vs : List V} {fp : List Addr}, RpL K G Z H ds vs fp → vs.length = ds.length
  | [], vs, fp, h => by rw [h.1]; rfl
  | d :: ds, vs, fp, ⟨v, vs', f1, f2, e, r, rs, ef⟩ => by rw [e, List.length_cons, List.length_cons, RpL.len rs]
theorem RpL.get : ∀ {ds : List D} {vs : List V} {fp : List Addr} {i : Nat} {d : D}, RpL K G Z H ds vs fp → ds[i]? = some d → ∃ v f, vs[i]? = some v ∧ Rp K G Z H d v f ∧ ∀ a ∈ f, a ∈ fp
  | [], vs, fp, i, d, h, e => by simp at e
  | d0 :: ds, vs, fp, 0, d, ⟨v, vs', f1, f2, e, r, rs, ef⟩, h => by
    have : d0 = d := Option.some.inj h
    subst this; subst e; subst ef
    exact ⟨v, f1, rfl, r, fun a m => List.mem_append_left _ m⟩
  | d0 :: ds, vs, fp, i + 1, d, ⟨v, vs', f1, f2, e, r, rs, ef⟩, h => by
    subst e; subst ef
    obtain ⟨v', f, h1, h2, h3⟩ := RpL.get (i := i) (d := d) rs h
    exact ⟨v', f, h1, h2, fun a m => List.mem_append_right _ (h3 a m)⟩
theorem RpL.get0 {ds : List D} {vs : List V} {i : Nat} {d : D} (h : RpL K G Z H ds vs []) (e : ds[i]? = some d) : ∃ v, vs[i]? = some v ∧ Rp K G Z H d v [] := by
  obtain ⟨v, f, h1, h2, h3⟩ := h.get e
  have : f = [] := by
    cases f with
    | nil => rfl
    | cons a r => exact absurd (h3 a List.mem_cons_self) (by simp)
  subst this
  exact ⟨v, h1, h2⟩
theorem RpL.app : ∀ {ds ds' : List D} {vs vs' : List V} {f f' : List Addr}, RpL K G Z H ds vs f → RpL K G Z H ds' vs' f' → RpL K G Z H (ds ++ ds') (vs ++ vs') (f ++ f')
  | [], ds', vs, vs', f, f', h, h' => by rw [h.1, h.2]; exact h'
  | d :: ds, ds', vs, vs', f, f', ⟨v, vs1, f1, f2, e, r, rs, ef⟩, h' => by
    subst e; subst ef
    exact ⟨v, vs1 ++ vs', f1, f2 ++ f', rfl, r, RpL.app rs h', by simp⟩
theorem RpL.one {d : D} {v : V} {f : List Addr} (h : Rp K G Z H d v f) : RpL K G Z H [d] [v] f := ⟨v, [], f, [], rfl, h, ⟨rfl, rfl⟩, by simp⟩
end
end TT

set_option Elab.async false
set_option linter.all false
set_option maxRecDepth 100000
namespace TT
open PySem PySem.Spec PyProof.Rows L2

/-! ### the bag of draws -/
def bagL (q : Addr) (l t m : Int) : List (Key × V) := [(.inr "great", .ref q), (.inr "left", .int l), (.inr "turn", .int t), (.inr "blend", .int m)]
/-- draws that a run may make -/
def lim : Nat := 2 ^ 63
/-- a bag of draws: a dict with the great numbers' list at q; a list of three numbers; a list of the great numbers' list and three numbers -/
def BagOk (G : Bg) (n : Nat) (H : Hp) : Prop := match G with
  | none => True
  | some (.dict, b, q) => b ≠ q ∧ ∃ (gs : List Int) (l t m : Int), H b = some (.dK (bagL q l t m)) ∧ H q = some (.lst (gs.map V.int)) ∧
      0 ≤ l ∧ (0 ≤ t ∧ t ≤ (n : Int)) ∧ (0 ≤ m ∧ m < 2305843009213693951) ∧ ∀ g ∈ gs, 0 ≤ g
  | some (.three, b, q) => b = q ∧ ∃ d s t : Int, H b = some (.lst [.int d, .int s, .int t]) ∧ 0 ≤ d ∧ (0 ≤ t ∧ t ≤ (n : Int)) ∧ (0 ≤ s ∧ s < 2 ^ 80)
  | some (.four, b, q) => b ≠ q ∧ ∃ (gs : List Int) (l m t : Int), H b = some (.lst [.ref q, .int l, .int m, .int t]) ∧ H q = some (.lst (gs.map V.int)) ∧
      0 ≤ l ∧ (0 ≤ t ∧ t ≤ (n : Int)) ∧ (0 ≤ m ∧ m < 2 ^ 80) ∧ ∀ g ∈ gs, 0 ≤ g
theorem BagOk.tracked {G : Bg} {n : Nat} {H : Hp} (h : BagOk G n H) {a : Addr} (i : inB G a) : ∃ o, H a = some o := by
  match G, h, i with
  | some (.dict, b, q), h, i =>
    obtain ⟨_, gs, l, t, m, e1, e2, _⟩ := h
    rcases i with i | i
    · exact ⟨_, by rw [i]; exact e1⟩
    · exact ⟨_, by rw [i]; exact e2⟩
  | some (.three, b, q), h, i =>
    obtain ⟨eq, d, s, t, e1, _⟩ := h
    rcases i with i | i
    · exact ⟨_, by rw [i]; exact e1⟩
    · exact ⟨_, by rw [i, ← eq]; exact e1⟩
  | some (.four, b, q), h, i =>
    obtain ⟨_, gs, l, t, m, e1, e2, _⟩ := h
    rcases i with i | i
    · exact ⟨_, by rw [i]; exact e1⟩
    · exact ⟨_, by rw [i]; exact e2⟩
theorem BagOk.mut {G : Bg} {n : Nat} {H : Hp} (h : BagOk G n H) {a : Addr} (i : inB G a) : Mut (H a) := by
  match G, h, i with
  | some (.dict, b, q), h, i =>
    obtain ⟨_, gs, l, t, m, e1, e2, _⟩ := h
    rcases i with i | i
    · rw [i, e1]; trivial
    · rw [i, e2]; trivial
  | some (.three, b, q), h, i =>
    obtain ⟨eq, d, s, t, e1, _⟩ := h
    rcases i with i | i
    · rw [i, e1]; trivial
    · rw [i, ← eq, e1]; trivial
  | some (.four, b, q), h, i =>
    obtain ⟨_, gs, l, t, m, e1, e2, _⟩ := h
    rcases i with i | i
    · rw [i, e1]; trivial
    · rw [i, e2]; trivial
theorem BagOk.up {G : Bg} {n k : Nat} {H : Hp} (h : BagOk G n H) (l : n ≤ k) : BagOk G k H := by
  match G, h with
  | none, _ => trivial
  | some (.dict, b, q), h =>
    obtain ⟨ne, gs, l', t, m, e1, e2, a1, a2, a3⟩ := h
    exact ⟨ne, gs, l', t, m, e1, e2, a1, ⟨a2.1, by omega⟩, a3⟩
  | some (.three, b, q), h =>
    obtain ⟨eq, d, s, t, e1, a1, a2, a3⟩ := h
    exact ⟨eq, d, s, t, e1, a1, ⟨a2.1, by omega⟩, a3⟩
  | some (.four, b, q), h =>
    obtain ⟨ne, gs, l', t, m, e1, e2, a1, a2, a3⟩ := h
    exact ⟨ne, gs, l', t, m, e1, e2, a1, ⟨a2.1, by omega⟩, a3⟩
theorem BagOk.keep {G : Bg} {n : Nat} {H H' : Hp} (h : BagOk G n H) (k : ∀ a, inB G a → H' a = H a) : BagOk G n H' := by
  match G, h, k with
  | none, _, _ => trivial
  | some (.dict, b, q), h, k =>
    obtain ⟨ne, gs, l', t, m, e1, e2, a1⟩ := h
    exact ⟨ne, gs, l', t, m, (k b (.inl rfl)).trans e1, (k q (.inr rfl)).trans e2, a1⟩
  | some (.three, b, q), h, k =>
    obtain ⟨eq, d, s, t, e1, a1⟩ := h
    exact ⟨eq, d, s, t, (k b (.inl rfl)).trans e1, a1⟩
  | some (.four, b, q), h, k =>
    obtain ⟨ne, gs, l', t, m, e1, e2, a1⟩ := h
    exact ⟨ne, gs, l', t, m, (k b (.inl rfl)).trans e1, (k q (.inr rfl)).trans e2, a1⟩

/-! ### steps of the tree's world -/
/-- Good: what is shared is there and is not the bag's -/
structure Gd (G : Bg) (n : Nat) (Z : Zs) (H : Hp) : Prop where
  bag : BagOk G n H
  nz : ∀ a, Z a → ¬ inB G a
  tr : ∀ a, Z a → ∃ o, H a = some o
theorem Gd.up {G : Bg} {n k : Nat} {Z : Zs} {H : Hp} (g : Gd G n Z H) (l : n ≤ k) : Gd G k Z H := ⟨g.bag.up l, g.nz, g.tr⟩
/-- from (Z, H) with the owned places A to (Z', H') with A'; M: places that may be written -/
structure Stp (G : Bg) (M : List Addr) (Z : Zs) (H : Hp) (A : List Addr) (Z' : Zs) (H' : Hp) (A' : List Addr) : Prop where
  keep : ∀ a o, H a = some o → ¬ inB G a → a ∉ M → H' a = some o
  there : ∀ a o, H a = some o → ∃ o', H' a = some o'
  zz : ∀ a, Z a → Z' a
  zn : ∀ a, Z' a → Z a ∨ a ∈ A ∨ H a = none
  fn : ∀ a ∈ A', a ∈ A ∨ H a = none
theorem Stp.refl {G : Bg} {M : List Addr} {Z : Zs} {H : Hp} {A : List Addr} : Stp G M Z H A Z H A :=
  ⟨fun _ _ h _ _ => h, fun _ o h => ⟨o, h⟩, fun _ h => h, fun _ h => .inl h, fun _ h => .inl h⟩
theorem Stp.refl0 {G : Bg} {M : List Addr} {Z : Zs} {H : Hp} {A : List Addr} : Stp G M Z H A Z H [] :=
  ⟨fun _ _ h _ _ => h, fun _ o h => ⟨o, h⟩, fun _ h => h, fun _ h => .inl h, (fun _ h => nomatch h)⟩
section
variable {G : Bg} {M M1 : List Addr} {Z Z1 Z2 : Zs} {H H1 H2 : Hp} {A A1 A2 : List Addr}
theorem Stp.free (s : Stp G M Z H A Z1 H1 A1) {a : Addr} (h : H1 a = none) : H a = none := by
  cases e : H a with
  | none => rfl
  | some o =>
    obtain ⟨o', e'⟩ := s.there a o e
    rw [h] at e'; cases e'
theorem Stp.trans (s : Stp G M Z H A Z1 H1 A1) (t : Stp G M1 Z1 H1 A1 Z2 H2 A2) (hm : ∀ a ∈ M1, a ∈ M ∨ H a = none) : Stp G M Z H A Z2 H2 A2 where
  keep := fun a o h nb nm => t.keep a o (s.keep a o h nb nm) nb fun c => (hm a c).elim nm fun e => by rw [h] at e; cases e
  there := fun a o h => let ⟨o', e⟩ := s.there a o h; t.there a o' e
  zz := fun a z => t.zz a (s.zz a z)
  zn := fun a z => by
    rcases t.zn a z with z | z | z
    · exact s.zn a z
    · rcases s.fn a z with z | z
      · exact .inr (.inl z)
      · exact .inr (.inr z)
    · exact .inr (.inr (s.free z))
  fn := fun a z => by
    rcases t.fn a z with z | z
    · exact s.fn a z
    · exact .inr (s.free z)
/-- a second expression, beside what the first one gave -/
theorem Stp.par (s : Stp G M Z H A Z1 H1 A1) (t : Stp G [] Z1 H1 [] Z2 H2 A2) : Stp G M Z H A Z2 H2 (A1 ++ A2) where
  keep := fun a o h nb nm => t.keep a o (s.keep a o h nb nm) nb (fun c => nomatch c)
  there := fun a o h => let ⟨o', e⟩ := s.there a o h; t.there a o' e
  zz := fun a z => t.zz a (s.zz a z)
  zn := fun a z => by
    rcases t.zn a z with z | z | z
    · exact s.zn a z
    · cases z
    · exact .inr (.inr (s.free z))
  fn := fun a z => by
    rcases List.mem_append.mp z with z | z
    · exact s.fn a z
    · rcases t.fn a z with z | z
      · cases z
      · exact .inr (s.free z)
theorem Stp.drop (s : Stp G M Z H A Z1 H1 A1) : Stp G M Z H A Z1 H1 [] := ⟨s.keep, s.there, s.zz, s.zn, (fun _ h => nomatch h)⟩
theorem Stp.wide (s : Stp G M Z H A Z1 H1 A1) (hA : ∀ a ∈ A, a ∈ A2) : Stp G M Z H A2 Z1 H1 A1 :=
  ⟨s.keep, s.there, s.zz, fun a z => (s.zn a z).elim .inl fun z => .inr (z.elim (fun z => .inl (hA a z)) .inr), fun a z => (s.fn a z).elim (fun z => .inl (hA a z)) .inr⟩
end
/-- a value: what it is, what it owns -/
structure Ob (K : PySem.W.Frag) (G : Bg) (Z : Zs) (H : Hp) (d : D) (v : V) (fp : List Addr) : Prop where
  rp : Rp K G Z H d v fp
  nd : fp.Nodup
  nz : ∀ a ∈ fp, ¬ Z a
  nb : ∀ a ∈ fp, ¬ inB G a
structure ObL (K : PySem.W.Frag) (G : Bg) (Z : Zs) (H : Hp) (ds : List D) (vs : List V) (fp : List Addr) : Prop where
  rp : RpL K G Z H ds vs fp
  nd : fp.Nodup
  nz : ∀ a ∈ fp, ¬ Z a
  nb : ∀ a ∈ fp, ¬ inB G a
section
variable {K : PySem.W.Frag} {G : Bg} {M M1 : List Addr} {Z Z1 Z2 : Zs} {H H1 H2 : Hp} {A A1 A2 : List Addr} {n m : Nat}
theorem Gd.notMut (g : Gd G n Z H) {a : Addr} {o : HO} (h : H a = some o) (m : ¬ Mut (some o)) : ¬ inB G a := fun i => m (by rw [← h]; exact g.bag.mut i)
/-- a value through a step that writes none of its places -/
theorem Rp.step {d : D} {v : V} {fp : List Addr} (r : Rp K G Z H d v fp) (g : Gd G n Z H) (s : Stp G M Z H A Z1 H1 A1) (hM : ∀ a ∈ M, ¬ Z a ∧ a ∉ fp ∧ Mut (H a)) (nb : ∀ a ∈ fp, ¬ inB G a) : Rp K G Z1 H1 d v fp := by
  refine Rp.keep s.zz d v fp (fun a o h c => ?_) r
  rcases c with c | c | c
  · exact s.keep a o h (g.notMut h c) fun z => c (by rw [← h]; exact (hM a z).2.2)
  · exact s.keep a o h (g.nz a c) fun z => (hM a z).1 c
  · exact s.keep a o h (nb a c) fun z => (hM a z).2.1 c
theorem RpL.step {ds : List D} {vs : List V} {fp : List Addr} (r : RpL K G Z H ds vs fp) (g : Gd G n Z H) (s : Stp G M Z H A Z1 H1 A1) (hM : ∀ a ∈ M, ¬ Z a ∧ a ∉ fp ∧ Mut (H a)) (nb : ∀ a ∈ fp, ¬ inB G a) : RpL K G Z1 H1 ds vs fp := by
  refine RpL.keep s.zz ds vs fp (fun a o h c => ?_) r
  rcases c with c | c | c
  · exact s.keep a o h (g.notMut h c) fun z => c (by rw [← h]; exact (hM a z).2.2)
  · exact s.keep a o h (g.nz a c) fun z => (hM a z).1 c
  · exact s.keep a o h (nb a c) fun z => (hM a z).2.1 c
theorem nil_ok {fp : List Addr} : ∀ a ∈ ([] : List Addr), ¬ Z a ∧ a ∉ fp ∧ Mut (H a) := (fun _ h => nomatch h)
theorem Ob.step {d : D} {v : V} {fp : List Addr} (r : Ob K G Z H d v fp) (g : Gd G n Z H) (s : Stp G [] Z H [] Z1 H1 A1) : Ob K G Z1 H1 d v fp :=
  ⟨r.rp.step g s nil_ok r.nb, r.nd, (fun a m z => by
    rcases s.zn a z with z | z | z
    · exact r.nz a m z
    · cases z
    · obtain ⟨o, e, _⟩ := Rp.fpMut _ _ _ r.rp a m
      rw [z] at e; cases e), r.nb⟩
theorem ObL.step {ds : List D} {vs : List V} {fp : List Addr} (r : ObL K G Z H ds vs fp) (g : Gd G n Z H) (s : Stp G [] Z H [] Z1 H1 A1) : ObL K G Z1 H1 ds vs fp :=
  ⟨r.rp.step g s nil_ok r.nb, r.nd, (fun a m z => by
    rcases s.zn a z with z | z | z
    · exact r.nz a m z
    · cases z
    · obtain ⟨o, e, _⟩ := RpL.fpMut _ _ _ r.rp a m
      rw [z] at e; cases e), r.nb⟩
/-- fresh places and places that are there are apart -/
theorem apart {fp f2 : List Addr} (h1 : ∀ a ∈ fp, ∃ o, H a = some o ∧ Mut (some o)) (h2 : ∀ a ∈ f2, H a = none) : ∀ a ∈ fp, ∀ b ∈ f2, a ≠ b := fun a ha b hb e => by
  obtain ⟨o, x, _⟩ := h1 a ha
  rw [e, h2 b hb] at x; cases x
theorem Ob.cons {d : D} {v : V} {f1 : List Addr} {ds : List D} {vs : List V} {f2 : List Addr} (a : Ob K G Z H d v f1) (b : ObL K G Z H ds vs f2) (x : ∀ a ∈ f1, ∀ b ∈ f2, a ≠ b) : ObL K G Z H (d :: ds) (v :: vs) (f1 ++ f2) :=
  ⟨⟨v, vs, f1, f2, rfl, a.rp, b.rp, rfl⟩, List.nodup_append.mpr ⟨a.nd, b.nd, x⟩, fun c m => (List.mem_append.mp m).elim (a.nz c) (b.nz c), fun c m => (List.mem_append.mp m).elim (a.nb c) (b.nb c)⟩
theorem ObL.nil : ObL K G Z H [] [] [] := ⟨⟨rfl, rfl⟩, List.nodup_nil, (fun _ h => nomatch h), (fun _ h => nomatch h)⟩
theorem Ob.flat {d : D} {v : V} (h : Rp K G Z H d v []) : Ob K G Z H d v [] := ⟨h, List.nodup_nil, (fun _ h => nomatch h), (fun _ h => nomatch h)⟩
end

/-! ### errors -/
abbrev XD := Str × D
/-- an error of the program's own: its class's name, its value -/
def Xr (K : PySem.W.Frag) (mg : Str → Option Value) (G : Bg) (Z : Zs) (H : Hp) (cls : Value) (da : Option Addr) (x : XD) : Prop :=
  mg x.1 = some cls ∧ ∃ dd v, da = some dd ∧ H dd = some (.xd [("value", v)]) ∧ Rp K G Z H x.2 v []

/-! ### judgements over trees -/
abbrev Ev := List (Option D)
abbrev RE := Ev → (D → Prop) → (XD → Prop) → Prop
abbrev RA := Ev → (List D → Prop) → (XD → Prop) → Prop
abbrev RT := Ev → (Bool → Prop) → (XD → Prop) → Prop
/-- the frame as an expression sees it: nothing is one's own -/
structure Vw (K : PySem.W.Frag) (G : Bg) (Z : Zs) (H : Hp) (env : Ev) (σ : L2.St) : Prop where
  len : env.length = σ.length
  at_ : ∀ (i : Nat) (d : D), env[i]? = some (some d) → ∃ v, σ[i]? = some (some v) ∧ Rp K G Z H (frz d) v []
section
variable {K : PySem.W.Frag} {G : Bg} {Z Z1 : Zs} {H H1 : Hp} {A1 : List Addr} {n : Nat} {env : Ev} {σ : L2.St}
theorem Vw.step (w : Vw K G Z H env σ) (g : Gd G n Z H) (s : Stp G [] Z H [] Z1 H1 A1) : Vw K G Z1 H1 env σ :=
  ⟨w.len, fun i d e => let ⟨v, e1, r⟩ := w.at_ i d e; ⟨v, e1, r.step g s nil_ok (fun _ h => nomatch h)⟩⟩
end
/-- what stands ahead of an expression -/
structure Pre (G : Bg) (n c : Nat) (Z : Zs) (H : Hp) : Prop where
  gd : Gd G n Z H
  le : n + c ≤ lim
/-- its end -/
structure Rs (K : PySem.W.Frag) (G : Bg) (n c : Nat) (Z : Zs) (H : Hp) (Z' : Zs) (H' : Hp) (fp : List Addr) : Prop where
  st : Stp G [] Z H [] Z' H' fp
  gd : Gd G (n + c) Z' H'
def liE (X : Cx) (W : WX) (G : Bg) (c : Nat) (t : RE) : TE := fun σ H Q => ∃ (n : Nat) (Z : Zs) (env : Ev) (Q' : D → Prop) (E' : XD → Prop),
  Pre G n c Z H ∧ Vw X.K G Z H env σ ∧ t env Q' E' ∧
  (∀ d v fp Z' H', Rs X.K G n c Z H Z' H' fp → Ob X.K G Z' H' d v fp → Q' d → Q v H') ∧
  (∀ x cls da Z' H', Rs X.K G n c Z H Z' H' [] → Xr X.K X.mg G Z' H' cls da x → E' x → W cls da σ H')
def liA (X : Cx) (W : WX) (G : Bg) (c : Nat) (t : RA) : TA := fun σ H Q => ∃ (n : Nat) (Z : Zs) (env : Ev) (Q' : List D → Prop) (E' : XD → Prop),
  Pre G n c Z H ∧ Vw X.K G Z H env σ ∧ t env Q' E' ∧
  (∀ ds vs fp Z' H', Rs X.K G n c Z H Z' H' fp → ObL X.K G Z' H' ds vs fp → Q' ds → Q vs H') ∧
  (∀ x cls da Z' H', Rs X.K G n c Z H Z' H' [] → Xr X.K X.mg G Z' H' cls da x → E' x → W cls da σ H')
def liT (X : Cx) (W : WX) (G : Bg) (c : Nat) (t : RT) : TT := fun σ H Q => ∃ (n : Nat) (Z : Zs) (env : Ev) (Q' : Bool → Prop) (E' : XD → Prop),
  Pre G n c Z H ∧ Vw X.K G Z H env σ ∧ t env Q' E' ∧
  (∀ b Z' H', Rs X.K G n c Z H Z' H' [] → Q' b → Q b H') ∧
  (∀ x cls da Z' H', Rs X.K G n c Z H Z' H' [] → Xr X.K X.mg G Z' H' cls da x → E' x → W cls da σ H')
def JE (X : Cx) (W : WX) (G : Bg) (c : Nat) (e : Expr) (t : RE) : Prop := PE X e (liE X W G c t)
def JA (X : Cx) (W : WX) (G : Bg) (c : Nat) (es : List Expr) (t : RA) : Prop := PA X es (liA X W G c t)
def JT (X : Cx) (W : WX) (G : Bg) (c : Nat) (e : Expr) (t : RT) : Prop := PT X e (liT X W G c t)
/-- a test whatever its whole -/
def JW (X : Cx) (W : WX) (G : Bg) (c : Nat) (e : Expr) (t : RT) : Prop := PW X e (liT X W G c t)

theorem peImp {X : Cx} {e : Expr} {t t' : TE} (h : PE X e t) (k : ∀ σ H Q, t' σ H Q → t σ H Q) : PE X e t' := ⟨fun pins s σ H Q I q => h.run pins s σ H Q I (k σ H Q q)⟩
theorem ptImp {X : Cx} {e : Expr} {t t' : TT} (h : PT X e t) (k : ∀ σ H Q, t' σ H Q → t σ H Q) : PT X e t' := ⟨fun pins s σ H Q I q => h.run pins s σ H Q I (k σ H Q q)⟩
theorem pwImp {X : Cx} {e : Expr} {t t' : TT} (h : PW X e t) (k : ∀ σ H Q, t' σ H Q → t σ H Q) : PW X e t' := ⟨fun wh pins s σ H Q I q => h.run wh pins s σ H Q I (k σ H Q q)⟩
theorem paImp {X : Cx} {es : List Expr} {t t' : TA} (h : PA X es t) (k : ∀ σ H Q, t' σ H Q → t σ H Q) : PA X es t' := ⟨fun pos pins s σ H Q I q => h.run pos pins s σ H Q I (k σ H Q q)⟩
theorem psImp {X : Cx} {st : Stmt} {t t' : TS} (h : PS X st t) (k : ∀ D σ H, t' D σ H → t D σ H) : PS X st t' := ⟨fun pins s σ H D I q => h.run pins s σ H D I (k D σ H q)⟩
theorem pssImp {X : Cx} {st : List Stmt} {t t' : TS} (h : PSs X st t) (k : ∀ D σ H, t' D σ H → t D σ H) : PSs X st t' := ⟨fun pins s σ H D I q => h.run pins s σ H D I (k D σ H q)⟩
end TT

set_option Elab.async false
set_option linter.all false
set_option maxRecDepth 100000
namespace TT
open PySem PySem.Spec PyProof.Rows L2
/-! ### defs under known guards: no repr is on its way -/
structure RoomG (k : Nat) (A : Around) : Prop extends Room k A where
  gd : A.guards = some []
theorem RoomG.mono {j k : Nat} {A : Around} (r : RoomG k A) (h : j ≤ k) : RoomG j A := ⟨r.toRoom.mono h, r.gd⟩
structure FnG (P : Program) (w : World) (K : PySem.W.Frag) (mg : Str → Option Value) (base : Heap) (T : CXT) (k : Nat) (f : Addr) (fd : FuncData) (ps : List Str) (sp : Sp) : Prop where
  len : ∀ xs H Q E, sp xs H Q E → xs.length = ps.length
  run : ∀ (A : Around) (up : List Env) (s : Shared) (H : Hp) (ar : Args) (ws : List Value) (xs : List V) (Q : VK) (E : XK), RoomG k A → Env0 P w K mg base A up s H → BindsTo s fd ar (ps.zip ws) → Vals xs ws → sp xs H Q E → codeAny (model P w) A (.call (.ref f) ar) (CR T up P w H s Q E) s
section
variable {P : Program} {w : World} {K : PySem.W.Frag} {mg : Str → Option Value} {base : Heap} {T : CXT}
theorem FnG.ofOk {k : Nat} {f : Addr} {fd : FuncData} {ps : List Str} {sp : Sp} (F : FnOk P w K mg base T k f fd ps sp) : FnG P w K mg base T k f fd ps sp :=
  ⟨F.len, fun A up s H ar ws xs Q E r e b v q => F.run A up s H ar ws xs Q E r.toRoom e b v q⟩
/-- a def by its body, run where no repr is on its way -/
theorem fn_g {k : Nat} {f : Addr} {name qual : Str} {params : Arguments} {body : List Stmt} {scope : Scope} {dV kV doc pm cdv ct oc : Value} {an od : Option Addr} {osl : Array (Option Value)} {N ps : List Str} {sp : Sp}
    (lk : K.lookup f = some ⟨oc, od, .func (PySem.W.fnOf name qual params body scope dV kV doc pm an cdv ct), osl⟩) (cd : PySem.W.codeIn K cdv qual = true) (S : FnScope N ps scope) (len : ∀ xs H Q E, sp xs H Q E → xs.length = ps.length)
    (bd : ∀ (A : Around) (up : List Env) (s : Shared) (H : Hp) (xs : List V) (Q : VK) (E : XK), RoomG k (A.deeper (envOfC qual scope s.heap.objs.size f cdv)) → sp xs H Q E →
      ∃ t, PSs (cxOf T P w K mg base N qual scope f cdv A up s H E) body t ∧ t { nx := fun _ H1 => Q .non H1, rt := Q } (L2.start N xs) H) :
    FnG P w K mg base T (k + 1) f (PySem.W.fnOf name qual params body scope dV kV doc pm an cdv ct) ps sp := by
  refine ⟨len, fun A up s H ar ws xs Q E hr en hbd rv hsp => ?_⟩
  have kn := en.mod.kin.keeps fun b o e => (en.bs b o e).1
  have cells : ∀ y ∈ ps.zip ws, scope.names.lookup y.1 = some .local ∨ (scope.names.lookup y.1 = some .cell ∧ ((cellsFrom (s.heap.objs.size + 1) scope.names []).lookup y.1).isSome = true) := by
    rintro ⟨nm, v⟩ hy
    exact (S.par nm (List.of_mem_zip hy).1).imp id fun q => ⟨q, PySem.W.cellsFrom_some _ _ _ (.inl q)⟩
  obtain ⟨t, ht, hq⟩ := bd A up s H xs Q E ⟨hr.toRoom.deeper _, hr.gd⟩ hsp
  refine codeAny_call_function hr.toRoom.depth (kn _ _ lk) rfl S.co S.gen rfl (PySem.W.codeRec_of kn cd) (hbd _ _ _ _ (wpAny_newFunctionEnv_cells S.kind cells fun env he s1 x => ?_))
  subst he
  refine ⟨(en.mod.nolimit.keeps fun b o e => (en.bs b o e).1).keeps x.toInCall.keep, codeAny_func ?_⟩
  have J0 : Inv (cxOf T P w K mg base N qual scope f cdv A up s H E) [] (L2.start N xs) H s1 := inv_start S hr.hd en (len _ _ _ _ hsp) rv x
  refine wpAny_mono (ht.run [] s1 _ H _ J0 hq) (fun fl s2 e => ?_) fun _ _ z => z
  match fl, e with
  | .ret u, ⟨v, _, H1, J, r, q⟩ => exact ⟨v, H1, J.os, J.bare, J.base, J.hok, r, q⟩
  | .next, ⟨_, H1, J, q⟩ => exact ⟨.non, H1, J.os, J.bare, J.base, J.hok, rfl, q⟩
  | .brk, ⟨_, _, _, q⟩ => exact q.elim
  | .cont, ⟨_, _, _, q⟩ => exact q.elim
theorem okG {x qual : Str} {st : Stmt} {f : Addr} {fd : FuncData} {N ps : List Str} {k : Nat} {sp : Sp} (F : Fun K x qual st f fd) (S : FnScope N ps (defScope st)) (len : ∀ xs H Q E, sp xs H Q E → xs.length = ps.length)
    (bd : ∀ (cdv : Value) (A : Around) (up : List Env) (s : Shared) (H : Hp) (xs : List V) (Q : VK) (E : XK), RoomG k (A.deeper (envOfC qual (defScope st) s.heap.objs.size f cdv)) → sp xs H Q E →
      ∃ t, PSs (cxOf (L2.CX P w) P w K mg base N qual (defScope st) f cdv A up s H E) (defBody st) t ∧ t { nx := fun _ H1 => Q .non H1, rt := Q } (L2.start N xs) H) : FnG P w K mg base (L2.CX P w) (k + 1) f fd ps sp := by
  obtain ⟨_, _, _, _, _, _, cdv, _, _, e, lk, cd⟩ := F.ex
  subst e
  exact fn_g lk cd S len fun A up s H xs Q E => bd cdv A up s H xs Q E
end
section
variable {X : Cx} {T : CXT} {k : Nat} {f : Addr} {fd : FuncData} {ps : List Str} {sp : Sp} {E : L2.St → XK}
/-- what a callee does, seen by its caller -/
theorem run_g {pins : List (Addr × Obj)} {σ : L2.St} {H : Hp} {s : Shared} {Q : VK} {ar : Args} {ws : List Value} {xs : List V} (F : FnG X.prog X.w X.K X.mg X.base T k f fd ps sp) (hr : RoomG k X.A) (hx : PassesAt T X σ (E σ)) (I : Inv X pins σ H s)
    (b : BindsTo s fd ar (ps.zip ws)) (r : Vals xs ws) (h : sp xs H Q (E σ)) : codeAny (model X.prog X.w) X.A (.call (.ref f) ar) (fun r s1 => match r with
      | .ok (.ret u) => EP X pins σ Q u s1
      | .ok _ => False
      | .error e => X.xe e s1) s := by
  refine codeAny_mono (F.run X.A X.stack s H ar ws xs Q (E σ) hr I.env0 b r h) fun y s1 hy => ?_
  match y, hy with
  | .error e, hy => exact hx pins H s e s1 I hy
  | .ok (.ret u), hy => exact I.after hy
  | .ok .next, hy => exact hy.elim
  | .ok .brk, hy => exact hy.elim
  | .ok .cont, hy => exact hy.elim
theorem pe_callG {x : Str} {p pos : Pos} {e : Expr} {es : List Expr} {t : TA} (F : FnG X.prog X.w X.K X.mg X.base T k f fd ps sp) (hr : RoomG k X.A) (hg : Gl X x) (hm : X.mg x = some (.ref f)) (hk : PySem.W.keepIn X.K (.ref f) = true) (hb : Binds X.K fd ps []) (hx : ∀ σ, PassesAt T X σ (E σ))
    (ha : PA X (e :: es) t) (hdb : (x == ("__debug__" : Str)) = false := by decide) (he : starEach (e :: es) X.env = (false, eval e X.env) :: starEach es X.env := by rfl) (hpl : (backTo pos (starEach es X.env)).any (·.1) = false := by rfl) : PE X (.Call (.Name x p) (e :: es) [] pos) (tCallS sp E t) := by
  refine ⟨fun pins s σ H Q I h => wpAny_Call_Name_kw (ld_glob I hg hm ?_ hdb)⟩
  refine PySem.W.callWith_K (h₀ := X.base) I.ok.mod.kin hk (thn (ha.run pos pins s σ H _ I h) fun ws s1 ⟨xs, H1, I1, r, q⟩ => ⟨I1.kIn, ?_⟩) he hpl
  have hl : ws.length = ps.length := by rw [← r.length]; exact F.len _ _ _ _ q
  have b := hb s1 ws I1.kIn (by rw [List.append_nil]; exact hl)
  rw [List.append_nil] at b
  refine wpAny_call (codeAny_mono (run_g F hr (hx σ) I1 b r q) fun y s2 hy => ?_)
  match y, hy with
  | .error e, hy => exact hy
  | .ok (.ret u), hy => exact hy
  | .ok .next, hy => exact hy.elim
  | .ok .brk, hy => exact hy.elim
  | .ok .cont, hy => exact hy.elim
end
end TT

set_option Elab.async false
set_option linter.all false
set_option maxRecDepth 100000
namespace TT
open PySem PySem.Spec PyProof.Rows L2
section
variable {K : PySem.W.Frag} {mg : Str → Option Value} {G : Bg} {n m c c1 c2 : Nat} {Z Z1 Z2 : Zs} {H H1 H2 : Hp} {f1 f2 : List Addr}
theorem Rs.zero (p : Pre G n c Z H) : Rs K G n c Z H Z H [] := ⟨Stp.refl, p.gd.up (Nat.le_add_right _ _)⟩
theorem Pre.left (p : Pre G n (c1 + c2) Z H) : Pre G n c1 Z H := ⟨p.gd, by have := p.le; omega⟩
theorem Pre.right (p : Pre G n (c1 + c2) Z H) (r : Rs K G n c1 Z H Z1 H1 f1) : Pre G (n + c1) c2 Z1 H1 := ⟨r.gd, by have := p.le; omega⟩
theorem Rs.up (r : Rs K G n c1 Z H Z1 H1 f1) : Rs K G n (c1 + c2) Z H Z1 H1 f1 := ⟨r.st, r.gd.up (by omega)⟩
theorem Rs.nofp (r : Rs K G n c1 Z H Z1 H1 f1) : Rs K G n c1 Z H Z1 H1 [] := ⟨r.st.drop, r.gd⟩
/-- one expression, then one more: its error leaves what the first one gave -/
theorem Rs.then0 (r : Rs K G n c1 Z H Z1 H1 f1) (s : Rs K G (n + c1) c2 Z1 H1 Z2 H2 []) : Rs K G n (c1 + c2) Z H Z2 H2 [] :=
  ⟨r.st.drop.trans s.st (fun a h => (nomatch h)), by have := s.gd; rw [Nat.add_assoc] at this; exact this⟩
theorem Rs.par (r : Rs K G n c1 Z H Z1 H1 f1) (s : Rs K G (n + c1) c2 Z1 H1 Z2 H2 f2) : Rs K G n (c1 + c2) Z H Z2 H2 (f1 ++ f2) :=
  ⟨r.st.par s.st, by have := s.gd; rw [Nat.add_assoc] at this; exact this⟩
theorem Rs.apart (r : Rs K G n c1 Z H Z1 H1 f1) {d : D} {v : V} (o : Ob K G Z1 H1 d v f1) (s : Rs K G (n + c1) c2 Z1 H1 Z2 H2 f2) : ∀ a ∈ f1, ∀ b ∈ f2, a ≠ b :=
  TT.apart (Rp.fpMut _ _ _ o.rp) fun a h => (s.st.fn a h).elim (fun z => (nomatch z)) id
theorem Rs.apartL (r : Rs K G n c1 Z H Z1 H1 f1) {d : List D} {v : List V} (o : ObL K G Z1 H1 d v f1) (s : Rs K G (n + c1) c2 Z1 H1 Z2 H2 f2) : ∀ a ∈ f1, ∀ b ∈ f2, a ≠ b :=
  TT.apart (RpL.fpMut _ _ _ o.rp) fun a h => (s.st.fn a h).elim (fun z => (nomatch z)) id
/-- then an operation upon what they gave -/
theorem Rs.op (r : Rs K G n c Z H Z1 H1 f1) (s : Stp G [] Z1 H1 f1 Z2 H2 f2) (g : Gd G (n + c) Z2 H2) : Rs K G n c Z H Z2 H2 f2 :=
  ⟨r.st.trans s (fun a h => (nomatch h)), g⟩
end

/-! ### two, one, many -/
/-- an operation of two values -/
def VOp2 (X : Cx) (G : Bg) (r : R2) (g : D → D → (D → Prop) → Prop) : Prop := ∀ n Z H dx x fx dy y fy Q' Q, Gd G n Z H → Ob X.K G Z H dx x fx → Ob X.K G Z H dy y fy → (∀ a ∈ fx, ∀ b ∈ fy, a ≠ b) → g dx dy Q' →
  (∀ d v fp Z' H', Stp G [] Z H (fx ++ fy) Z' H' fp → Gd G n Z' H' → Ob X.K G Z' H' d v fp → Q' d → Q v H') → r x y H Q
def VOp1 (X : Cx) (G : Bg) (r : V → Hp → VK → Prop) (g : D → (D → Prop) → Prop) : Prop := ∀ n Z H dx x fx Q' Q, Gd G n Z H → Ob X.K G Z H dx x fx → g dx Q' →
  (∀ d v fp Z' H', Stp G [] Z H fx Z' H' fp → Gd G n Z' H' → Ob X.K G Z' H' d v fp → Q' d → Q v H') → r x H Q
def VOpL (X : Cx) (G : Bg) (r : List V → Hp → VK → Prop) (g : List D → (D → Prop) → Prop) : Prop := ∀ n Z H ds xs fx Q' Q, Gd G n Z H → ObL X.K G Z H ds xs fx → g ds Q' →
  (∀ d v fp Z' H', Stp G [] Z H fx Z' H' fp → Gd G n Z' H' → Ob X.K G Z' H' d v fp → Q' d → Q v H') → r xs H Q
section
variable {X : Cx} {W : WX} {G : Bg} {c c1 c2 c3 : Nat} {a b e : Expr} {es : List Expr} {ta tb tc : RE} {pos : Pos}

def r2 (ta tb : RE) (g : D → D → (D → Prop) → Prop) : RE := fun env Q E => ta env (fun x => tb env (fun y => g x y Q) E) E
def r1 (ta : RE) (g : D → (D → Prop) → Prop) : RE := fun env Q E => ta env (fun x => g x Q) E
def rL (ta : RA) (g : List D → (D → Prop) → Prop) : RE := fun env Q E => ta env (fun x => g x Q) E

theorem tOp_of {r : R2} {g : D → D → (D → Prop) → Prop} (hv : VOp2 X G r g) (σ : L2.St) (H : Hp) (Q : VK) (h : liE X W G (c1 + c2) (r2 ta tb g) σ H Q) : tOp r (liE X W G c1 ta) (liE X W G c2 tb) σ H Q := by
  obtain ⟨n, Z, env, Q', E', p, w, t, q, x⟩ := h
  refine ⟨n, Z, env, _, E', p.left, w, t, fun dx v fx Z1 H1 r1 o1 t1 => ?_, fun y cls da Z1 H1 r => x y cls da Z1 H1 r.up⟩
  refine ⟨n + c1, Z1, env, _, E', p.right r1, w.step p.gd r1.nofp.st, t1, fun dy u fy Z2 H2 r2 o2 t2 => ?_, fun y cls da Z2 H2 r => x y cls da Z2 H2 (r1.then0 r)⟩
  refine hv _ Z2 H2 dx v fx dy u fy Q' Q r2.gd (o1.step r1.gd r2.st) o2 (r1.apart o1 r2) t2 fun d v3 fp Z3 H3 s3 g3 o3 q3 => ?_
  exact q d v3 fp Z3 H3 ((r1.par r2).op s3 (by rw [← Nat.add_assoc]; exact g3)) o3 q3
theorem je_op {op : Operator} {r : R2} {g : D → D → (D → Prop) → Prop} (ho : OpR X (binaryOp op) r) (hv : VOp2 X G r g) (ha : JE X W G c1 a ta) (hb : JE X W G c2 b tb) : JE X W G (c1 + c2) (.BinOp a op b pos) (r2 ta tb g) :=
  peImp (pe_op ho ha hb) (tOp_of hv)
theorem je_cmp {op : CmpOp} {r : R2} {g : D → D → (D → Prop) → Prop} (ho : OpR X (compareOp op) r) (hv : VOp2 X G r g) (ha : JE X W G c1 a ta) (hb : JE X W G c2 b tb) (hm : behindInMarks op b = false) : JE X W G (c1 + c2) (.Compare a [op] [b] pos) (r2 ta tb g) :=
  peImp (pe_cmpR ho ha hb hm) (tOp_of hv)
theorem je_ix {r : R2} {g : D → D → (D → Prop) → Prop} (ho : IxR X r) (hs : PlainIx b) (hv : VOp2 X G r g) (ha : JE X W G c1 a ta) (hb : JE X W G c2 b tb) : JE X W G (c1 + c2) (.Subscript a b pos) (r2 ta tb g) :=
  peImp (pe_ix ho ha hb hs) (tOp_of hv)
theorem je_un {op : UnaryOp} {r : V → Hp → VK → Prop} {g : D → (D → Prop) → Prop} (ho : UnR X (unaryOp op) r) (hv : VOp1 X G r g) (ha : JE X W G c a ta) : JE X W G c (.UnaryOp op a pos) (r1 ta g) := by
  refine peImp (pe_un ho ha) fun σ H Q h => ?_
  obtain ⟨n, Z, env, Q', E', p, w, t, q, x⟩ := h
  refine ⟨n, Z, env, _, E', p, w, t, fun dx v fx Z1 H1 r1 o1 t1 => ?_, x⟩
  exact hv _ Z1 H1 dx v fx Q' Q r1.gd o1 t1 fun d v3 fp Z3 H3 s3 g3 o3 q3 => q d v3 fp Z3 H3 (r1.op s3 g3) o3 q3

/-! constants, names -/
theorem je_tc {v : V} {d : D} (h : PE X e (tC v)) (r : ∀ Z H, Rp X.K G Z H d v []) : JE X W G 0 e (fun _ Q _ => Q d) := by
  refine peImp h fun σ H Q h => ?_
  obtain ⟨n, Z, env, Q', E', p, w, t, q, x⟩ := h
  exact q d v [] Z H (Rs.zero p) (Ob.flat (r Z H)) t
theorem je_int {i : Int} {j : Nat} : JE X W G 0 (.Constant (.int i) j pos) (fun _ Q _ => Q (.int i)) := je_tc pe_int fun _ _ => ⟨rfl, rfl⟩
theorem je_str {x : Str} {j : Nat} : JE X W G 0 (.Constant (.str x) j pos) (fun _ Q _ => Q (.str x)) := je_tc pe_str fun _ _ => ⟨rfl, rfl⟩
theorem je_bl {x : Bool} {j : Nat} : JE X W G 0 (.Constant (.bool x) j pos) (fun _ Q _ => Q (.bl x)) := je_tc pe_bl fun _ _ => ⟨rfl, rfl⟩
theorem je_non {j : Nat} : JE X W G 0 (.Constant .none j pos) (fun _ Q _ => Q .non) := je_tc pe_non fun _ _ => ⟨rfl, rfl⟩
def rVar (i : Nat) : RE := fun env Q _ => match env[i]? with
  | some (some d) => Q (frz d)
  | _ => False
theorem je_v (i : Nat) (h : PE X e (tVar i)) : JE X W G 0 e (rVar i) := by
  refine peImp h fun σ H Q h => ?_
  obtain ⟨n, Z, env, Q', E', p, w, t, q, x⟩ := h
  unfold rVar at t
  split at t
  · rename_i d e
    obtain ⟨v, e1, r⟩ := w.at_ i d e
    exact ⟨v, e1, q (frz d) v [] Z H (Rs.zero p) (Ob.flat r) t⟩
  · exact t.elim

/-! arguments -/
def rNil : RA := fun _ Q _ => Q []
def rCons (ta : RE) (tr : RA) : RA := fun env Q E => ta env (fun x => tr env (fun xs => Q (x :: xs)) E) E
theorem ja_nil : JA X W G 0 [] rNil := by
  refine paImp pa_nil fun σ H Q h => ?_
  obtain ⟨n, Z, env, Q', E', p, w, t, q, x⟩ := h
  exact q [] [] [] Z H (Rs.zero p) ObL.nil t
theorem ja_cons {tr : RA} (ha : JE X W G c1 e ta) (hr : JA X W G c2 es tr) (hs : starEach (e :: es) X.env = (false, eval e X.env) :: starEach es X.env := by rfl) : JA X W G (c1 + c2) (e :: es) (rCons ta tr) := by
  refine paImp (pa_cons ha hr hs) fun σ H Q h => ?_
  obtain ⟨n, Z, env, Q', E', p, w, t, q, x⟩ := h
  refine ⟨n, Z, env, _, E', p.left, w, t, fun dx v fx Z1 H1 r1 o1 t1 => ?_, fun y cls da Z1 H1 r => x y cls da Z1 H1 r.up⟩
  refine ⟨n + c1, Z1, env, _, E', p.right r1, w.step p.gd r1.nofp.st, t1, fun ds us fs Z2 H2 r2 o2 t2 => ?_, fun y cls da Z2 H2 r => x y cls da Z2 H2 (r1.then0 r)⟩
  exact q (dx :: ds) (v :: us) (fx ++ fs) Z2 H2 (r1.par r2) ((o1.step r1.gd r2.st).cons o2 (r1.apart o1 r2)) t2

/-! displays -/
theorem Gd.new {n : Nat} {Z : Zs} {H : Hp} (g : Gd G n Z H) {p : Addr} {o : HO} (hp : H p = none) : Gd G n Z (upd H p o) := by
  refine ⟨g.bag.keep fun a i => ?_, g.nz, fun a z => ?_⟩
  · obtain ⟨o', e⟩ := g.bag.tracked i
    exact upd_ne (ne_of_none e hp)
  · obtain ⟨o', e⟩ := g.tr a z
    exact ⟨o', by rw [upd_ne (ne_of_none e hp)]; exact e⟩
theorem Stp.new {M : List Addr} {Z : Zs} {H : Hp} {A A' : List Addr} {p : Addr} {o : HO} (hp : H p = none) (hA : ∀ a ∈ A', a ∈ A ∨ a = p) : Stp G M Z H A Z (upd H p o) A' where
  keep := fun a u h _ _ => by rw [upd_ne (ne_of_none h hp)]; exact h
  there := fun a u h => ⟨u, by rw [upd_ne (ne_of_none h hp)]; exact h⟩
  zz := fun _ z => z
  zn := fun _ z => .inl z
  fn := fun a h => (hA a h).elim .inl fun e => .inr (by rw [e]; exact hp)
theorem rp_upd {K : PySem.W.Frag} {Z : Zs} {H : Hp} {d : D} {v : V} {fp : List Addr} {p : Addr} {o : HO} (r : Rp K G Z H d v fp) (hp : H p = none) : Rp K G Z (upd H p o) d v fp :=
  Rp.keep (fun _ z => z) d v fp (fun a u h _ => by rw [upd_ne (ne_of_none h hp)]; exact h) r
theorem rpL_upd {K : PySem.W.Frag} {Z : Zs} {H : Hp} {d : List D} {v : List V} {fp : List Addr} {p : Addr} {o : HO} (r : RpL K G Z H d v fp) (hp : H p = none) : RpL K G Z (upd H p o) d v fp :=
  RpL.keep (fun _ z => z) d v fp (fun a u h _ => by rw [upd_ne (ne_of_none h hp)]; exact h) r
/-- a new tuple of what one has -/
theorem ob_tup {K : PySem.W.Frag} {n : Nat} {Z : Zs} {H : Hp} {ds : List D} {vs : List V} {fp : List Addr} {p : Addr} (o : ObL K G Z H ds vs fp) (hp : H p = none) : Ob K G Z (upd H p (.tup vs)) (.tup ds) (.ref p) fp :=
  ⟨⟨p, vs, rfl, upd_same, rpL_upd o.rp hp⟩, o.nd, o.nz, o.nb⟩
theorem ob_lst {K : PySem.W.Frag} {n : Nat} {Z : Zs} {H : Hp} {ds : List D} {vs : List V} {fp : List Addr} {p : Addr} (g : Gd G n Z H) (o : ObL K G Z H ds vs fp) (hp : H p = none) : Ob K G Z (upd H p (.lst vs)) (.lst true ds) (.ref p) (p :: fp) := by
  refine ⟨⟨p, vs, fp, rfl, upd_same, rpL_upd o.rp hp, rfl⟩, List.nodup_cons.mpr ⟨fun m => ?_, o.nd⟩, fun a m z => ?_, fun a m i => ?_⟩
  · obtain ⟨u, e, _⟩ := RpL.fpMut _ _ _ o.rp p m
    rw [hp] at e; cases e
  · rcases List.mem_cons.mp m with m | m
    · obtain ⟨u, e⟩ := g.tr a z
      rw [m, hp] at e; cases e
    · exact o.nz a m z
  · rcases List.mem_cons.mp m with m | m
    · obtain ⟨u, e⟩ := g.bag.tracked i
      rw [m, hp] at e; cases e
    · exact o.nb a m i
def rTup (t : RA) : RE := fun env Q E => t env (fun ds => Q (.tup ds)) E
def rLst (t : RA) : RE := fun env Q E => t env (fun ds => Q (.lst true ds)) E
theorem je_tup {t : RA} {k : Nat} (h : JA X W G c es t) (hl : es.length ≤ 1000 := by decide) : JE X W G c (.Tuple es k pos) (fun env Q E => t env (fun ds => ds.length ≤ sizeLine ∧ Q (.tup ds)) E) := by
  refine peImp (pe_tup h) fun σ H Q h => ?_
  obtain ⟨n, Z, env, Q', E', p, w, t, q, x⟩ := h
  refine ⟨n, Z, env, _, E', p, w, t, fun ds vs fp Z1 H1 r1 o1 t1 => ⟨by rw [o1.rp.len]; exact t1.1, fun l hl => ?_⟩, x⟩
  exact q _ _ fp Z1 _ (r1.op (Stp.new hl fun a m => .inl m) (r1.gd.new hl)) (ob_tup (n := n) o1 hl) t1.2
theorem je_lst {t : RA} (h : JA X W G c es t) : JE X W G c (.List es pos) (fun env Q E => t env (fun ds => ds.length ≤ sizeLine ∧ Q (.lst true ds)) E) := by
  refine peImp (pe_lst h) fun σ H Q h => ?_
  obtain ⟨n, Z, env, Q', E', p, w, t, q, x⟩ := h
  refine ⟨n, Z, env, _, E', p, w, t, fun ds vs fp Z1 H1 r1 o1 t1 => ⟨by rw [o1.rp.len]; exact t1.1, fun l hl => ?_⟩, x⟩
  exact q _ _ (l :: fp) Z1 _ (r1.op (Stp.new hl fun a m => (List.mem_cons.mp m).elim .inr .inl) (r1.gd.new hl)) (ob_lst r1.gd o1 hl) t1.2

/-! calls of built-ins by values -/
theorem tCB_of {r : List V → Hp → VK → Prop} {g : List D → (D → Prop) → Prop} {t : RA} (hv : VOpL X G r g) (σ : L2.St) (H : Hp) (Q : VK) (h : liE X W G c (rL t g) σ H Q) : tCB r (liA X W G c t) σ H Q := by
  obtain ⟨n, Z, env, Q', E', p, w, t, q, x⟩ := h
  refine ⟨n, Z, env, _, E', p, w, t, fun dx v fx Z1 H1 r1 o1 t1 => ?_, x⟩
  exact hv _ Z1 H1 dx v fx Q' Q r1.gd o1 t1 fun d v3 fp Z3 H3 s3 g3 o3 q3 => q d v3 fp Z3 H3 (r1.op s3 g3) o3 q3
theorem je_callB {x : Str} {p : Pos} {id : String} {r : List V → Hp → VK → Prop} {g : List D → (D → Prop) → Prop} {t : RA} (hc : CallR X (.builtin id) r) (hv : VOpL X G r g) (hg : Gl X x) (hm : X.mg x = none) (hb : bootBuiltins x = some (.builtin id)) (ha : JA X W G c (e :: es) t)
    (hn : x ≠ "__name__" := by decide) (hdb : (x == ("__debug__" : Str)) = false := by decide) (he : starEach (e :: es) X.env = (false, eval e X.env) :: starEach es X.env := by rfl) (hpl : (backTo pos (starEach es X.env)).any (·.1) = false := by rfl) :
    JE X W G c (.Call (.Name x p) (e :: es) [] pos) (rL t g) := peImp (pe_callB hc hg hm hb ha hn hdb he hpl) (tCB_of hv)
theorem je_callTy {x : Str} {p : Pos} {T : String} {r : List V → Hp → VK → Prop} {g : List D → (D → Prop) → Prop} {t : RA} (hc : CallR X (.type T) r) (hv : VOpL X G r g) (hg : Gl X x) (hm : X.mg x = none) (hb : bootBuiltins x = some (.type T)) (ha : JA X W G c (e :: es) t)
    (hn : x ≠ "__name__" := by decide) (hdb : (x == ("__debug__" : Str)) = false := by decide) (he : starEach (e :: es) X.env = (false, eval e X.env) :: starEach es X.env := by rfl) (hpl : (backTo pos (starEach es X.env)).any (·.1) = false := by rfl) :
    JE X W G c (.Call (.Name x p) (e :: es) [] pos) (rL t g) := peImp (pe_callTy hc hg hm hb ha hn hdb he hpl) (tCB_of hv)

/-! calls of the program's own -/
abbrev Spt := List D → (D → Prop) → (XD → Prop) → Prop
def liS (K : PySem.W.Frag) (mg : Str → Option Value) (G : Bg) (c k : Nat) (sp : Spt) : Sp := fun vs H Q E => ∃ (n : Nat) (Z : Zs) (ds : List D) (Q' : D → Prop) (E' : XD → Prop),
  Pre G n c Z H ∧ RpL K G Z H ds vs [] ∧ ds.length = k ∧ sp ds Q' E' ∧
  (∀ d v fp Z' H', Rs K G n c Z H Z' H' fp → Ob K G Z' H' d v fp → Q' d → Q v H') ∧
  (∀ x cls da Z' H', Rs K G n c Z H Z' H' [] → Xr K mg G Z' H' cls da x → E' x → E cls da H')
theorem liS.len {K : PySem.W.Frag} {mg : Str → Option Value} {c k : Nat} {sp : Spt} {vs : List V} {H : Hp} {Q : VK} {E : XK} (h : liS K mg G c k sp vs H Q E) : vs.length = k := by
  obtain ⟨n, Z, ds, Q', E', p, r, l, _⟩ := h
  rw [r.len, l]
/-- a def keeps a promise about trees -/
def FnT (P : Program) (w : World) (K : PySem.W.Frag) (mg : Str → Option Value) (base : Heap) (G : Bg) (c k : Nat) (f : Addr) (fd : FuncData) (ps : List Str) (sp : Spt) : Prop := FnG P w K mg base (L2.CX P w) k f fd ps (liS K mg G c ps.length sp)
/-- freezing what is handed over -/
theorem ObL.share {K : PySem.W.Frag} {n : Nat} {Z : Zs} {H : Hp} {ds : List D} {vs : List V} {fp : List Addr} (o : ObL K G Z H ds vs fp) (g : Gd G n Z H) :
    Gd G n (fun a => Z a ∨ a ∈ fp) H ∧ RpL K G (fun a => Z a ∨ a ∈ fp) H (frzL ds) vs [] ∧ Stp G [] Z H fp (fun a => Z a ∨ a ∈ fp) H [] :=
  ⟨⟨g.bag, fun a z => z.elim (g.nz a) (o.nb a), fun a z => z.elim (g.tr a) fun m => let ⟨u, e, _⟩ := RpL.fpMut _ _ _ o.rp a m; ⟨u, e⟩⟩, RpL.frz (fun _ z => .inl z) _ _ _ (fun _ m => .inr m) o.rp,
    ⟨fun _ _ h _ _ => h, fun _ u h => ⟨u, h⟩, fun _ z => .inl z, fun _ z => z.elim .inl fun m => .inr (.inl m), fun _ h => (nomatch h)⟩⟩
theorem Ob.share {K : PySem.W.Frag} {n : Nat} {Z : Zs} {H : Hp} {d : D} {v : V} {fp : List Addr} (o : Ob K G Z H d v fp) (g : Gd G n Z H) :
    Gd G n (fun a => Z a ∨ a ∈ fp) H ∧ Rp K G (fun a => Z a ∨ a ∈ fp) H (frz d) v [] ∧ Stp G [] Z H fp (fun a => Z a ∨ a ∈ fp) H [] :=
  ⟨⟨g.bag, fun a z => z.elim (g.nz a) (o.nb a), fun a z => z.elim (g.tr a) fun m => let ⟨u, e, _⟩ := Rp.fpMut _ _ _ o.rp a m; ⟨u, e⟩⟩, Rp.frz (fun _ z => .inl z) _ _ _ (fun _ m => .inr m) o.rp,
    ⟨fun _ _ h _ _ => h, fun _ u h => ⟨u, h⟩, fun _ z => .inl z, fun _ z => z.elim .inl fun m => .inr (.inl m), fun _ h => (nomatch h)⟩⟩
def rCall (sp : Spt) (k : Nat) (t : RA) : RE := fun env Q E => t env (fun ds => ds.length = k ∧ sp (frzL ds) Q E) E
theorem je_call {x : Str} {p : Pos} {f : Addr} {fd : FuncData} {ps : List Str} {k : Nat} {sp : Spt} {t : RA} (F : FnT X.prog X.w X.K X.mg X.base G c2 k f fd ps sp) (hr : RoomG k X.A) (tk : Takes X W) (hg : Gl X x) (hm : X.mg x = some (.ref f)) (hk : PySem.W.keepIn X.K (.ref f) = true) (hb : Binds X.K fd ps [])
    (ha : JA X W G c1 (e :: es) t) (hdb : (x == ("__debug__" : Str)) = false := by decide) (he : starEach (e :: es) X.env = (false, eval e X.env) :: starEach es X.env := by rfl) (hpl : (backTo pos (starEach es X.env)).any (·.1) = false := by rfl) :
    JE X W G (c1 + c2) (.Call (.Name x p) (e :: es) [] pos) (rCall sp ps.length t) := by
  refine peImp (pe_callG F hr hg hm hk hb (fun σ => passAt tk σ) ha hdb he hpl) fun σ H Q h => ?_
  obtain ⟨n, Z, env, Q', E', p, w, t, q, x⟩ := h
  refine ⟨n, Z, env, _, E', p.left, w, t, fun ds vs fp Z1 H1 r1 o1 t1 => ?_, fun y cls da Z1 H1 r => x y cls da Z1 H1 r.up⟩
  obtain ⟨g2, o2, s2⟩ := o1.share r1.gd
  have r2 := r1.op s2 g2
  refine ⟨n + c1, _, frzL ds, Q', E', p.right r2, o2, ?_, t1.2, fun d v f3 Z3 H3 r3 o3 q3 => ?_, fun y cls da Z3 H3 r3 xr e3 => ?_⟩
  · rw [frzL_map, List.length_map]; exact t1.1
  · refine q d v f3 Z3 H3 ?_ o3 q3
    exact r2.par r3
  · exact x y cls da Z3 H3 (r2.then0 r3) xr e3
end
end TT

set_option Elab.async false
set_option linter.all false
set_option maxRecDepth 100000
namespace TT
open PySem PySem.Spec PyProof.Rows L2

/-! ### frames with what they own -/
structure Stt (K : PySem.W.Frag) (G : Bg) (n : Nat) (Z : Zs) (H : Hp) (env : Ev) (σ : L2.St) (F : List (List Addr)) : Prop where
  gd : Gd G n Z H
  len : env.length = σ.length
  lenF : F.length = env.length
  at_ : ∀ (i : Nat) (d : D), env[i]? = some (some d) → ∃ v fp, σ[i]? = some (some v) ∧ F[i]? = some fp ∧ Rp K G Z H d v fp
  nd : F.flatten.Nodup
  nz : ∀ a ∈ F.flatten, ¬ Z a
  nb : ∀ a ∈ F.flatten, ¬ inB G a
  mt : ∀ a ∈ F.flatten, Mut (H a)
structure Pst where
  nx : Ev → Prop
  rt : D → Prop
  bk : Ev → Prop := fun _ => False
  ct : Ev → Prop := fun _ => False
  ex : XD → Ev → Prop := fun _ _ => False
abbrev RS := Pst → Ev → Prop
/-- behind a statement -/
structure Send (K : PySem.W.Frag) (G : Bg) (n c : Nat) (Z : Zs) (H : Hp) (A : List Addr) (Z' : Zs) (env' : Ev) (σ' : L2.St) (H' : Hp) (F' : List (List Addr)) : Prop where
  st : Stp G A Z H A Z' H' F'.flatten
  stt : Stt K G (n + c) Z' H' env' σ' F'
def liSt (X : Cx) (W : WX) (G : Bg) (c : Nat) (t : RS) : TS := fun D σ H => ∃ (n : Nat) (Z : Zs) (env : Ev) (F : List (List Addr)) (P : Pst), n + c ≤ lim ∧ Stt X.K G n Z H env σ F ∧ t P env ∧
  (∀ Z' env' σ' H' F', Send X.K G n c Z H F.flatten Z' env' σ' H' F' → P.nx env' → D.nx σ' H') ∧
  (∀ Z' env' σ' H' F', Send X.K G n c Z H F.flatten Z' env' σ' H' F' → P.bk env' → D.bk σ' H') ∧
  (∀ Z' env' σ' H' F', Send X.K G n c Z H F.flatten Z' env' σ' H' F' → P.ct env' → D.ct σ' H') ∧
  (∀ d v fp Z' H', Stp G F.flatten Z H F.flatten Z' H' fp → Gd G (n + c) Z' H' → Ob X.K G Z' H' d v fp → P.rt d → D.rt v H') ∧
  (∀ x cls da Z' env' σ' H' F', Send X.K G n c Z H F.flatten Z' env' σ' H' F' → Xr X.K X.mg G Z' H' cls da x → P.ex x env' → W cls da σ' H')
def JS (X : Cx) (W : WX) (G : Bg) (c : Nat) (st : Stmt) (t : RS) : Prop := PS X st (liSt X W G c t)
def JB (X : Cx) (W : WX) (G : Bg) (c : Nat) (st : List Stmt) (t : RS) : Prop := PSs X st (liSt X W G c t)

/-! ### what an expression may see -/
def mask : List Bool → Ev → Ev
  | true :: ms, o :: r => o :: mask ms r
  | false :: ms, _ :: r => none :: mask ms r
  | [], _ :: r => none :: mask [] r
  | _, [] => []
def frzS : List Bool → Ev → Ev
  | true :: ms, o :: r => o.map frz :: frzS ms r
  | false :: ms, o :: r => o :: frzS ms r
  | [], r => r
  | _, [] => []
def drpF : List Bool → List (List Addr) → List (List Addr)
  | true :: ms, _ :: r => [] :: drpF ms r
  | false :: ms, o :: r => o :: drpF ms r
  | [], r => r
  | _, [] => []
def pickF : List Bool → List (List Addr) → List Addr
  | true :: ms, f :: r => f ++ pickF ms r
  | false :: ms, _ :: r => pickF ms r
  | [], _ => []
  | _, [] => []
def aft (ms : List Bool) (env : Ev) (d : D) : Ev := match ow d with
  | true => env
  | false => frzS ms env
theorem mask_len : ∀ (ms : List Bool) (env : Ev), (mask ms env).length = env.length
  | true :: ms, o :: r => congrArg (· + 1) (mask_len ms r)
  | false :: ms, o :: r => congrArg (· + 1) (mask_len ms r)
  | [], _ :: r => congrArg (· + 1) (mask_len [] r)
  | [], [] => rfl
  | true :: _, [] => rfl
  | false :: _, [] => rfl
theorem frzS_len : ∀ (ms : List Bool) (env : Ev), (frzS ms env).length = env.length
  | true :: ms, o :: r => congrArg (· + 1) (frzS_len ms r)
  | false :: ms, o :: r => congrArg (· + 1) (frzS_len ms r)
  | [], _ :: r => rfl
  | [], [] => rfl
  | true :: _, [] => rfl
  | false :: _, [] => rfl
theorem drpF_len : ∀ (ms : List Bool) (F : List (List Addr)), (drpF ms F).length = F.length
  | true :: ms, o :: r => congrArg (· + 1) (drpF_len ms r)
  | false :: ms, o :: r => congrArg (· + 1) (drpF_len ms r)
  | [], _ :: r => rfl
  | [], [] => rfl
  | true :: _, [] => rfl
  | false :: _, [] => rfl
theorem pickF_sub : ∀ (ms : List Bool) (F : List (List Addr)), ∀ a ∈ pickF ms F, a ∈ F.flatten
  | true :: ms, f :: r, a, h => by
    rw [List.flatten_cons]
    rcases List.mem_append.mp h with h | h
    · exact List.mem_append_left _ h
    · exact List.mem_append_right _ (pickF_sub ms r a h)
  | false :: ms, f :: r, a, h => by
    rw [List.flatten_cons]
    exact List.mem_append_right _ (pickF_sub ms r a h)
  | [], _, a, h => by cases h
  | true :: _, [], a, h => by cases h
  | false :: _, [], a, h => by cases h
theorem drpF_sub : ∀ (ms : List Bool) (F : List (List Addr)), ∀ a ∈ (drpF ms F).flatten, a ∈ F.flatten
  | true :: ms, f :: r, a, h => by
    rw [List.flatten_cons]
    exact List.mem_append_right _ (drpF_sub ms r a (by simpa [drpF] using h))
  | false :: ms, f :: r, a, h => by
    rw [List.flatten_cons]
    have h : a ∈ f ++ (drpF ms r).flatten := h
    rcases List.mem_append.mp h with h | h
    · exact List.mem_append_left _ h
    · exact List.mem_append_right _ (drpF_sub ms r a h)
  | [], r, a, h => h
  | true :: _, [], a, h => h
  | false :: _, [], a, h => h
theorem drpF_nd : ∀ (ms : List Bool) (F : List (List Addr)), F.flatten.Nodup → (drpF ms F).flatten.Nodup
  | true :: ms, f :: r, h => by
    rw [List.flatten_cons] at h
    show ([] ++ (drpF ms r).flatten).Nodup
    exact drpF_nd ms r (List.nodup_append.mp h).2.1
  | false :: ms, f :: r, h => by
    rw [List.flatten_cons] at h
    obtain ⟨h1, h2, h3⟩ := List.nodup_append.mp h
    show (f ++ (drpF ms r).flatten).Nodup
    exact List.nodup_append.mpr ⟨h1, drpF_nd ms r h2, fun a ha b hb => h3 a ha b (drpF_sub ms r b hb)⟩
  | [], r, h => h
  | true :: _, [], h => h
  | false :: _, [], h => h
theorem pick_drp : ∀ (ms : List Bool) (F : List (List Addr)), F.flatten.Nodup → ∀ a ∈ pickF ms F, a ∉ (drpF ms F).flatten
  | true :: ms, f :: r, h, a, m, z => by
    rw [List.flatten_cons] at h
    obtain ⟨h1, h2, h3⟩ := List.nodup_append.mp h
    have z : a ∈ (drpF ms r).flatten := by simpa [drpF] using z
    rcases List.mem_append.mp m with m | m
    · exact h3 a m a (drpF_sub ms r a z) rfl
    · exact pick_drp ms r h2 a m z
  | false :: ms, f :: r, h, a, m, z => by
    rw [List.flatten_cons] at h
    obtain ⟨h1, h2, h3⟩ := List.nodup_append.mp h
    have z : a ∈ f ++ (drpF ms r).flatten := z
    rcases List.mem_append.mp z with z | z
    · exact h3 a z a (pickF_sub ms r a m) rfl
    · exact pick_drp ms r h2 a m z
  | [], r, h, a, m, z => by cases m
  | true :: _, [], h, a, m, z => by cases m
  | false :: _, [], h, a, m, z => by cases m
theorem mask_at : ∀ (ms : List Bool) (env : Ev) (F : List (List Addr)) (i : Nat) (d : D), (mask ms env)[i]? = some (some d) → env[i]? = some (some d) ∧ ∀ f, F[i]? = some f → ∀ a ∈ f, a ∈ pickF ms F
  | true :: ms, o :: r, F, 0, d, h => ⟨h, fun f hf a m => by
    cases F with
    | nil => cases hf
    | cons f0 F0 =>
      have : f0 = f := Option.some.inj hf
      subst this
      exact List.mem_append_left _ m⟩
  | true :: ms, o :: r, F, i + 1, d, h => by
    have h' : (mask ms r)[i]? = some (some d) := h
    cases F with
    | nil => exact ⟨(mask_at ms r [] i d h').1, fun f hf => by cases hf⟩
    | cons f0 F0 =>
      obtain ⟨a1, a2⟩ := mask_at ms r F0 i d h'
      exact ⟨a1, fun f hf a m => List.mem_append_right _ (a2 f hf a m)⟩
  | false :: ms, o :: r, F, 0, d, h => by cases h
  | false :: ms, o :: r, F, i + 1, d, h => by
    have h' : (mask ms r)[i]? = some (some d) := h
    cases F with
    | nil => exact ⟨(mask_at ms r [] i d h').1, fun f hf => by cases hf⟩
    | cons f0 F0 =>
      obtain ⟨a1, a2⟩ := mask_at ms r F0 i d h'
      exact ⟨a1, fun f hf a m => a2 f hf a m⟩
  | [], _ :: r, F, 0, d, h => by cases h
  | [], o :: r, F, i + 1, d, h => by
    have h' : (mask [] r)[i]? = some (some d) := h
    cases F with
    | nil => exact ⟨(mask_at [] r [] i d h').1, fun f hf => by cases hf⟩
    | cons f0 F0 =>
      obtain ⟨a1, a2⟩ := mask_at [] r F0 i d h'
      exact ⟨a1, fun f hf a m => a2 f hf a m⟩
  | [], [], F, i, d, h => by simp [mask] at h
  | true :: _, [], F, i, d, h => by simp [mask] at h
  | false :: _, [], F, i, d, h => by simp [mask] at h
theorem frzS_at : ∀ (ms : List Bool) (env : Ev) (F : List (List Addr)) (i : Nat) (d : D), F.length = env.length → (frzS ms env)[i]? = some (some d) →
    (∃ d0, env[i]? = some (some d0) ∧ d = frz d0 ∧ (drpF ms F)[i]? = some [] ∧ ∀ f, F[i]? = some f → ∀ a ∈ f, a ∈ pickF ms F) ∨ (env[i]? = some (some d) ∧ (drpF ms F)[i]? = F[i]?)
  | true :: ms, o :: r, f0 :: F0, 0, d, l, h => by
    cases o with
    | none => cases h
    | some d0 =>
      have : frz d0 = d := Option.some.inj (Option.some.inj h)
      exact .inl ⟨d0, rfl, this.symm, rfl, fun f hf a m => by
        have : f0 = f := Option.some.inj hf
        subst this
        exact List.mem_append_left _ m⟩
  | true :: ms, o :: r, f0 :: F0, i + 1, d, l, h => by
    have h' : (frzS ms r)[i]? = some (some d) := h
    rcases frzS_at ms r F0 i d (by simpa using l) h' with ⟨d0, a1, a2, a3, a4⟩ | ⟨a1, a2⟩
    · exact .inl ⟨d0, a1, a2, a3, fun f hf a m => List.mem_append_right _ (a4 f hf a m)⟩
    · exact .inr ⟨a1, a2⟩
  | false :: ms, o :: r, f0 :: F0, 0, d, l, h => .inr ⟨h, rfl⟩
  | false :: ms, o :: r, f0 :: F0, i + 1, d, l, h => by
    have h' : (frzS ms r)[i]? = some (some d) := h
    rcases frzS_at ms r F0 i d (by simpa using l) h' with ⟨d0, a1, a2, a3, a4⟩ | ⟨a1, a2⟩
    · exact .inl ⟨d0, a1, a2, a3, fun f hf a m => a4 f hf a m⟩
    · exact .inr ⟨a1, a2⟩
  | [], r, F, i, d, l, h => .inr ⟨h, rfl⟩
  | true :: _, [], F, i, d, l, h => by simp [frzS] at h
  | false :: _, [], F, i, d, l, h => by simp [frzS] at h
  | true :: _, _ :: _, [], i, d, l, h => by simp at l
  | false :: _, _ :: _, [], i, d, l, h => by simp at l

section
variable {K : PySem.W.Frag} {G : Bg} {n n1 c : Nat} {Z Z1 : Zs} {H H1 : Hp} {env : Ev} {σ : L2.St} {F : List (List Addr)} {ms : List Bool} {d : D} {v : V} {fp : List Addr}
/-- the view -/
theorem Stt.view (s : Stt K G n Z H env σ F) (ms : List Bool) : Gd G n (fun a => Z a ∨ a ∈ pickF ms F) H ∧ Vw K G (fun a => Z a ∨ a ∈ pickF ms F) H (mask ms env) σ := by
  refine ⟨⟨s.gd.bag, fun a z => z.elim (s.gd.nz a) fun m => s.nb a (pickF_sub ms F a m), fun a z => z.elim (s.gd.tr a) fun m => ?_⟩, by rw [mask_len]; exact s.len, fun i d h => ?_⟩
  · have q := s.mt a (pickF_sub ms F a m)
    cases e : H a with
    | none => rw [e] at q; exact q.elim
    | some o => exact ⟨o, rfl⟩
  · obtain ⟨a1, a2⟩ := mask_at ms env F i d h
    obtain ⟨v, fp, e1, e2, r⟩ := s.at_ i d a1
    exact ⟨v, e1, Rp.frz (fun _ z => .inl z) d v fp (fun a m => .inr (a2 fp e2 a m)) r⟩
theorem memF {i : Nat} {f : List Addr} (h : F[i]? = some f) : ∀ a ∈ f, a ∈ F.flatten := fun a m => List.mem_flatten.mpr ⟨f, List.mem_of_getElem? h, m⟩
theorem Stt.trk (s : Stt K G n Z H env σ F) : ∀ a ∈ F.flatten, ∃ o, H a = some o := fun a m => by
  have q := s.mt a m
  cases e : H a with
  | none => rw [e] at q; exact q.elim
  | some o => exact ⟨o, rfl⟩
theorem Stt.keepR {Z' : Zs} {A A' : List Addr} {Zv : Zs} (s : Stt K G n Z H env σ F) (r : Stp G [] Zv H A Z1 H1 A') (d : D) (v : V) (f : List Addr) (zz : ∀ a, Z a → Z' a) (hf : ∀ a ∈ f, a ∈ F.flatten) (rp : Rp K G Z H d v f) : Rp K G Z' H1 d v f :=
  Rp.keep zz d v f (fun a o h cs => r.keep a o h (by
    rcases cs with cs | cs | cs
    · exact s.gd.notMut h cs
    · exact s.gd.nz a cs
    · exact s.nb a (hf a cs)) (fun z => (nomatch z))) rp
theorem Stt.mt1 {A A' : List Addr} {Zv Z' : Zs} (s : Stt K G n Z H env σ F) (r : Stp G [] Zv H A Z' H1 A') : ∀ a ∈ F.flatten, Mut (H1 a) := fun a m => by
  obtain ⟨o, e⟩ := s.trk a m
  have q := s.mt a m
  rw [r.keep a o e (s.nb a m) (fun z => (nomatch z))]
  rw [e] at q
  exact q
/-- behind an expression, what it saw is shared from then on -/
theorem Stt.shared (s : Stt K G n Z H env σ F) (r : Rs K G n c (fun a => Z a ∨ a ∈ pickF ms F) H Z1 H1 fp) :
    Stt K G (n + c) Z1 H1 (frzS ms env) σ (drpF ms F) ∧ Stp G F.flatten Z H F.flatten Z1 H1 (fp ++ (drpF ms F).flatten) := by
  have tr := s.trk
  have z1 : ∀ a ∈ (drpF ms F).flatten, ¬ Z1 a := fun a m z => by
    rcases r.st.zn a z with z | z | z
    · rcases z with z | z
      · exact s.nz a (drpF_sub ms F a m) z
      · exact pick_drp ms F s.nd a z m
    · cases z
    · obtain ⟨o, e⟩ := tr a (drpF_sub ms F a m)
      rw [z] at e; cases e
  refine ⟨⟨r.gd, by rw [frzS_len]; exact s.len, by rw [drpF_len, frzS_len]; exact s.lenF, fun i d' h => ?_, drpF_nd ms F s.nd, z1, fun a m => s.nb a (drpF_sub ms F a m), fun a m => s.mt1 r.st a (drpF_sub ms F a m)⟩, ⟨fun a u h nb _ => r.st.keep a u h nb (fun z => (nomatch z)), r.st.there, fun a z => r.st.zz a (.inl z), fun a z => ?_, fun a m => ?_⟩⟩
  · rcases frzS_at ms env F i d' s.lenF h with ⟨d0, a1, a2, a3, a4⟩ | ⟨a1, a2⟩
    · obtain ⟨v', f', e1, e2, rp⟩ := s.at_ i d0 a1
      subst a2
      refine ⟨v', [], e1, a3, ?_⟩
      have rp1 := s.keepR (Z' := Z1) r.st d0 v' f' (fun a z => r.st.zz a (.inl z)) (memF e2) rp
      exact Rp.frz (fun _ z => z) d0 v' f' (fun a m => r.st.zz a (.inr (a4 f' e2 a m))) rp1
    · obtain ⟨v', f', e1, e2, rp⟩ := s.at_ i d' a1
      exact ⟨v', f', e1, a2.trans e2, s.keepR r.st d' v' f' (fun a z => r.st.zz a (.inl z)) (memF e2) rp⟩
  · rcases r.st.zn a z with z | z | z
    · rcases z with z | z
      · exact .inl z
      · exact .inr (.inl (pickF_sub ms F a z))
    · cases z
    · exact .inr (.inr z)
  · exact (List.mem_append.mp m).elim (fun m => (r.st.fn a m).elim (fun z => (nomatch z)) .inr) fun m => .inl (drpF_sub ms F a m)
/-- .. or nothing is shared -/
theorem Stt.kept (s : Stt K G n Z H env σ F) (r : Rs K G n c (fun a => Z a ∨ a ∈ pickF ms F) H Z1 H1 fp) :
    Stt K G (n + c) Z H1 env σ F ∧ Stp G F.flatten Z H F.flatten Z H1 (fp ++ F.flatten) := by
  have kp : ∀ a o, H a = some o → ¬ inB G a → H1 a = some o := fun a o h nb => r.st.keep a o h nb (fun z => (nomatch z))
  refine ⟨⟨⟨r.gd.bag, s.gd.nz, fun a z => ?_⟩, s.len, s.lenF, fun i d' h => ?_, s.nd, s.nz, s.nb, s.mt1 r.st⟩, ⟨fun a u h nb _ => kp a u h nb, r.st.there, fun _ z => z, fun _ z => .inl z, fun a m => ?_⟩⟩
  · obtain ⟨u, e⟩ := s.gd.tr a z
    exact ⟨u, kp a u e (s.gd.nz a z)⟩
  · obtain ⟨v', f', e1, e2, rp⟩ := s.at_ i d' h
    exact ⟨v', f', e1, e2, s.keepR r.st d' v' f' (fun _ z => z) (memF e2) rp⟩
  · exact (List.mem_append.mp m).elim (fun m => (r.st.fn a m).elim (fun z => (nomatch z)) .inr) .inl
/-- behind an expression: its value stands beside the frame -/
theorem Stt.after (s : Stt K G n Z H env σ F) (r : Rs K G n c (fun a => Z a ∨ a ∈ pickF ms F) H Z1 H1 fp) (o : Ob K G Z1 H1 d v fp) :
    ∃ Z2 F2, Stt K G (n + c) Z2 H1 (aft ms env d) σ F2 ∧ Ob K G Z2 H1 d v fp ∧ (∀ a ∈ fp, ∀ b ∈ F2.flatten, a ≠ b) ∧ Stp G F.flatten Z H F.flatten Z2 H1 (fp ++ F2.flatten) := by
  have fresh : ∀ a ∈ fp, H a = none := fun a m => (r.st.fn a m).elim (fun z => (nomatch z)) id
  have nf : ∀ a ∈ fp, ∀ b ∈ F.flatten, a ≠ b := fun a ha b hb e => by
    obtain ⟨o, x⟩ := s.trk b hb
    rw [← e, fresh a ha] at x; cases x
  unfold aft
  cases ho : ow d with
  | true =>
    obtain ⟨s2, st2⟩ := s.kept r
    exact ⟨Z, F, s2, ⟨Rp.ownz d v fp ho o.rp, o.nd, (fun a m z => by
      obtain ⟨u, e⟩ := s.gd.tr a z
      rw [fresh a m] at e; cases e), o.nb⟩, nf, st2⟩
  | false =>
    obtain ⟨s2, st2⟩ := s.shared r
    exact ⟨Z1, drpF ms F, s2, o, fun a ha b hb => nf a ha b (drpF_sub ms F b hb), st2⟩
theorem Stt.afterL {ds : List D} {vs : List V} (s : Stt K G n Z H env σ F) (r : Rs K G n c (fun a => Z a ∨ a ∈ pickF ms F) H Z1 H1 fp) (o : ObL K G Z1 H1 ds vs fp) :
    ∃ Z2 F2, Stt K G (n + c) Z2 H1 (aft ms env (.tup ds)) σ F2 ∧ ObL K G Z2 H1 ds vs fp ∧ (∀ a ∈ fp, ∀ b ∈ F2.flatten, a ≠ b) ∧ Stp G F.flatten Z H F.flatten Z2 H1 (fp ++ F2.flatten) := by
  have fresh : ∀ a ∈ fp, H a = none := fun a m => (r.st.fn a m).elim (fun z => (nomatch z)) id
  have nf : ∀ a ∈ fp, ∀ b ∈ F.flatten, a ≠ b := fun a ha b hb e => by
    obtain ⟨o, x⟩ := s.trk b hb
    rw [← e, fresh a ha] at x; cases x
  unfold aft
  cases ho : ow (.tup ds) with
  | true =>
    obtain ⟨s2, st2⟩ := s.kept r
    exact ⟨Z, F, s2, ⟨RpL.ownz ds vs fp ho o.rp, o.nd, (fun a m z => by
      obtain ⟨u, e⟩ := s.gd.tr a z
      rw [fresh a m] at e; cases e), o.nb⟩, nf, st2⟩
  | false =>
    obtain ⟨s2, st2⟩ := s.shared r
    exact ⟨Z1, drpF ms F, s2, o, fun a ha b hb => nf a ha b (drpF_sub ms F b hb), st2⟩
theorem flat_set : ∀ (F : List (List Addr)) (i : Nat) (fp : List Addr), ∀ a ∈ (F.set i fp).flatten, a ∈ fp ∨ a ∈ F.flatten
  | [], i, fp, a, m => .inr m
  | f :: F, 0, fp, a, m => by
    have m : a ∈ fp ++ F.flatten := m
    rcases List.mem_append.mp m with m | m
    · exact .inl m
    · exact .inr (List.mem_append_right _ m)
  | f :: F, i + 1, fp, a, m => by
    have m : a ∈ f ++ (F.set i fp).flatten := m
    rcases List.mem_append.mp m with m | m
    · exact .inr (List.mem_append_left _ m)
    · rcases flat_set F i fp a m with m | m
      · exact .inl m
      · exact .inr (List.mem_append_right _ m)
theorem flat_set_nd : ∀ (F : List (List Addr)) (i : Nat) (fp : List Addr), F.flatten.Nodup → fp.Nodup → (∀ a ∈ fp, ∀ b ∈ F.flatten, a ≠ b) → (F.set i fp).flatten.Nodup
  | [], i, fp, h, h2, h3 => h
  | f :: F, 0, fp, h, h2, h3 => by
    rw [List.flatten_cons] at h
    show (fp ++ F.flatten).Nodup
    exact List.nodup_append.mpr ⟨h2, (List.nodup_append.mp h).2.1, fun a ha b hb => h3 a ha b (List.mem_append_right _ hb)⟩
  | f :: F, i + 1, fp, h, h2, h3 => by
    rw [List.flatten_cons] at h
    obtain ⟨a1, a2, a3⟩ := List.nodup_append.mp h
    show (f ++ (F.set i fp).flatten).Nodup
    refine List.nodup_append.mpr ⟨a1, flat_set_nd F i fp a2 h2 fun a ha b hb => h3 a ha b (List.mem_append_right _ hb), fun a ha b hb => ?_⟩
    rcases flat_set F i fp b hb with hb | hb
    · exact fun e => h3 b hb a (List.mem_append_left _ ha) e.symm
    · exact a3 a ha b hb
/-- a value is stored in a slot -/
theorem Stt.store (s : Stt K G n Z H env σ F) (o : Ob K G Z H d v fp) (ap : ∀ a ∈ fp, ∀ b ∈ F.flatten, a ≠ b) (i : Nat) : Stt K G n Z H (env.set i (some d)) (σ.set i (some v)) (F.set i fp) := by
  refine ⟨s.gd, by rw [List.length_set, List.length_set]; exact s.len, by rw [List.length_set, List.length_set]; exact s.lenF, fun j d' h => ?_, flat_set_nd F i fp s.nd o.nd ap, fun a m => ?_, fun a m => ?_, fun a m => ?_⟩
  · by_cases hj : i = j
    · subst hj
      have hi : i < env.length := by
        have := List.getElem?_eq_some_iff.mp h
        obtain ⟨h1, _⟩ := this
        rw [List.length_set] at h1
        exact h1
      rw [List.getElem?_set_self hi] at h
      have : d = d' := Option.some.inj (Option.some.inj h)
      subst this
      exact ⟨v, fp, List.getElem?_set_self (by rw [← s.len]; exact hi), List.getElem?_set_self (by rw [s.lenF]; exact hi), o.rp⟩
    · rw [List.getElem?_set_ne hj] at h
      obtain ⟨v', f', e1, e2, r⟩ := s.at_ j d' h
      exact ⟨v', f', by rw [List.getElem?_set_ne hj]; exact e1, by rw [List.getElem?_set_ne hj]; exact e2, r⟩
  · exact (flat_set F i fp a m).elim (o.nz a) (s.nz a)
  · exact (flat_set F i fp a m).elim (o.nb a) (s.nb a)
  · rcases flat_set F i fp a m with m | m
    · obtain ⟨u, e, q⟩ := Rp.fpMut _ _ _ o.rp a m
      rw [e]; exact q
    · exact s.mt a m
end
end TT

set_option Elab.async false
set_option linter.all false
set_option maxRecDepth 100000
namespace TT
open PySem PySem.Spec PyProof.Rows L2
section
variable {K : PySem.W.Frag} {G : Bg} {n n1 c c1 c2 : Nat} {Z Z1 Z2 : Zs} {H H1 H2 : Hp} {env env1 env2 : Ev} {σ σ1 σ2 : L2.St} {F F1 F2 : List (List Addr)} {ms : List Bool} {d : D} {v : V} {fp A : List Addr}
theorem Stt.up (s : Stt K G n Z H env σ F) (l : n ≤ n1) : Stt K G n1 Z H env σ F := ⟨s.gd.up l, s.len, s.lenF, s.at_, s.nd, s.nz, s.nb, s.mt⟩
theorem Send.refl (s : Stt K G n Z H env σ F) : Send K G n c Z H F.flatten Z env σ H F := ⟨Stp.refl, s.up (Nat.le_add_right _ _)⟩
theorem Send.up (s : Send K G n c1 Z H A Z1 env1 σ1 H1 F1) : Send K G n (c1 + c2) Z H A Z1 env1 σ1 H1 F1 := ⟨s.st, s.stt.up (by omega)⟩
theorem Send.up' (s : Send K G n c2 Z H A Z1 env1 σ1 H1 F1) : Send K G n (c1 + c2) Z H A Z1 env1 σ1 H1 F1 := ⟨s.st, s.stt.up (by omega)⟩
theorem Send.trans (s : Send K G n c1 Z H A Z1 env1 σ1 H1 F1) (t : Send K G (n + c1) c2 Z1 H1 F1.flatten Z2 env2 σ2 H2 F2) : Send K G n (c1 + c2) Z H A Z2 env2 σ2 H2 F2 :=
  ⟨s.st.trans t.st (fun a m => s.st.fn a m), by have := t.stt; rw [Nat.add_assoc] at this; exact this⟩
/-- an expression's error inside a statement -/
theorem Stt.fails (s : Stt K G n Z H env σ F) (r : Rs K G n c (fun a => Z a ∨ a ∈ pickF ms F) H Z1 H1 []) : Send K G n c Z H F.flatten Z1 (frzS ms env) σ H1 (drpF ms F) :=
  let ⟨s2, st2⟩ := s.shared r
  ⟨st2, s2⟩
end
section
variable {X : Cx} {W : WX} {G : Bg} {c c1 c2 : Nat} {e : Expr} {te : RE} {tt : RT} {t u : RS} {st : Stmt} {rest a b : List Stmt} {pos : Pos}
def rNext : RS := fun P env => P.nx env
def rSeq (t u : RS) : RS := fun P env => t { P with nx := u P } env
theorem jb_nil : JB X W G 0 [] rNext := pssImp pss_nil fun Dn σ H h => by
  obtain ⟨n, Z, env, F, P, l, s, t, q, _⟩ := h
  exact q Z env σ H F (Send.refl s) t
theorem jb_cons (h1 : JS X W G c1 st t) (h2 : JB X W G c2 rest u) : JB X W G (c1 + c2) (st :: rest) (rSeq t u) := pssImp (pss_cons h1 h2) fun Dn σ H h => by
  obtain ⟨n, Z, env, F, P, l, s, t, qn, qb, qc, qr, qx⟩ := h
  refine ⟨n, Z, env, F, _, by omega, s, t, fun Z1 env1 σ1 H1 F1 e1 t1 => ?_, fun Z1 env1 σ1 H1 F1 e1 t1 => qb Z1 env1 σ1 H1 F1 e1.up t1, fun Z1 env1 σ1 H1 F1 e1 t1 => qc Z1 env1 σ1 H1 F1 e1.up t1,
    fun d v fp Z1 H1 s1 g1 o1 t1 => qr d v fp Z1 H1 s1 (g1.up (by omega)) o1 t1, fun x cls da Z1 env1 σ1 H1 F1 e1 xr t1 => qx x cls da Z1 env1 σ1 H1 F1 e1.up xr t1⟩
  refine ⟨n + c1, Z1, env1, F1, P, by omega, e1.stt, t1, fun Z2 env2 σ2 H2 F2 e2 t2 => qn Z2 env2 σ2 H2 F2 (e1.trans e2) t2, fun Z2 env2 σ2 H2 F2 e2 t2 => qb Z2 env2 σ2 H2 F2 (e1.trans e2) t2, fun Z2 env2 σ2 H2 F2 e2 t2 => qc Z2 env2 σ2 H2 F2 (e1.trans e2) t2,
    fun d v fp Z2 H2 s2 g2 o2 t2 => qr d v fp Z2 H2 (e1.st.trans s2 fun a m => e1.st.fn a m) (by rw [← Nat.add_assoc]; exact g2) o2 t2, fun x cls da Z2 env2 σ2 H2 F2 e2 xr t2 => qx x cls da Z2 env2 σ2 H2 F2 (e1.trans e2) xr t2⟩
theorem jb_one (h1 : JS X W G c1 st t) : JB X W G c1 [st] t := pss_one h1
theorem js_pass : JS X W G 0 (.Pass pos) rNext := psImp ps_pass fun Dn σ H h => by
  obtain ⟨n, Z, env, F, P, l, s, t, q, _⟩ := h
  exact q Z env σ H F (Send.refl s) t
theorem js_break : JS X W G 0 (.Break pos) (fun P env => P.bk env) := psImp ps_break fun Dn σ H h => by
  obtain ⟨n, Z, env, F, P, l, s, t, q, qb, _⟩ := h
  exact qb Z env σ H F (Send.refl s) t
theorem js_continue : JS X W G 0 (.Continue pos) (fun P env => P.ct env) := psImp ps_continue fun Dn σ H h => by
  obtain ⟨n, Z, env, F, P, l, s, t, q, qb, qc, _⟩ := h
  exact qc Z env σ H F (Send.refl s) t
theorem js_doc {x : Str} {j : Nat} {pos' : Pos} : JS X W G 0 (.Expr (.Constant (.str x) j pos) pos') rNext := psImp ps_doc fun Dn σ H h => by
  obtain ⟨n, Z, env, F, P, l, s, t, q, _⟩ := h
  exact q Z env σ H F (Send.refl s) t

/-! ### an expression whose value the statement takes; names may be given away -/
abbrev RM := Ev → (D → Ev → Prop) → (XD → Ev → Prop) → Prop
def liM (X : Cx) (W : WX) (G : Bg) (c : Nat) (t : RM) : TE := fun σ H Q => ∃ (n : Nat) (Z : Zs) (env : Ev) (F : List (List Addr)) (Q' : D → Ev → Prop) (E' : XD → Ev → Prop), n + c ≤ lim ∧ Stt X.K G n Z H env σ F ∧ t env Q' E' ∧
  (∀ d v fp Z' env' F' H', Stt X.K G (n + c) Z' H' env' σ F' → Ob X.K G Z' H' d v fp → (∀ a ∈ fp, ∀ b ∈ F'.flatten, a ≠ b) → Stp G F.flatten Z H F.flatten Z' H' (fp ++ F'.flatten) → Q' d env' → Q v H') ∧
  (∀ x cls da Z' env' F' H', Send X.K G n c Z H F.flatten Z' env' σ H' F' → Xr X.K X.mg G Z' H' cls da x → E' x env' → W cls da σ H')
def JM (X : Cx) (W : WX) (G : Bg) (c : Nat) (e : Expr) (t : RM) : Prop := PE X e (liM X W G c t)
def rOf (ms : List Bool) (te : RE) : RM := fun env Q E => te (mask ms env) (fun d => Q d (aft ms env d)) (fun x => E x (frzS ms env))
theorem jm (ms : List Bool) (h : JE X W G c e te) : JM X W G c e (rOf ms te) := peImp h fun σ H Q h => by
  obtain ⟨n, Z, env, F, Q', E', l, s, t, q, x⟩ := h
  obtain ⟨g, w⟩ := s.view ms
  refine ⟨n, _, mask ms env, _, _, ⟨g, l⟩, w, t, fun d v fp Z1 H1 r1 o1 t1 => ?_, fun y cls da Z1 H1 r1 xr e1 => x y cls da Z1 _ _ H1 (s.fails r1) xr e1⟩
  obtain ⟨Z2, F2, s2, o2, ap, st⟩ := s.after r1 o1
  exact q d v fp Z2 _ F2 H1 s2 o2 ap st t1
def rMv (i : Nat) : RM := fun env Q _ => match env[i]? with
  | some (some d) => Q d (env.set i none)
  | _ => False
theorem flat_drop : ∀ (F : List (List Addr)) (i : Nat) (f : List Addr), F[i]? = some f → F.flatten.Nodup → f.Nodup ∧ ∀ a ∈ f, ∀ b ∈ (F.set i []).flatten, a ≠ b
  | [], i, f, h, nd => by cases h
  | f0 :: F, 0, f, h, nd => by
    have : f0 = f := Option.some.inj h
    subst this
    rw [List.flatten_cons] at nd
    obtain ⟨a1, a2, a3⟩ := List.nodup_append.mp nd
    exact ⟨a1, fun a ha b hb => a3 a ha b (by simpa using hb)⟩
  | f0 :: F, i + 1, f, h, nd => by
    rw [List.flatten_cons] at nd
    obtain ⟨a1, a2, a3⟩ := List.nodup_append.mp nd
    have h' : F[i]? = some f := h
    obtain ⟨b1, b2⟩ := flat_drop F i f h' a2
    refine ⟨b1, fun a ha b hb => ?_⟩
    have hb : b ∈ f0 ++ (F.set i []).flatten := hb
    rcases List.mem_append.mp hb with hb | hb
    · exact fun e => a3 b hb a (memF h' a ha) e.symm
    · exact b2 a ha b hb
theorem Stt.take {K : PySem.W.Frag} {n : Nat} {Z : Zs} {H : Hp} {env : Ev} {σ : L2.St} {F : List (List Addr)} {i : Nat} {d : D} (s : Stt K G n Z H env σ F) (h : env[i]? = some (some d)) :
    ∃ v fp, σ[i]? = some (some v) ∧ F[i]? = some fp ∧ Ob K G Z H d v fp ∧ (∀ a ∈ fp, ∀ b ∈ (F.set i []).flatten, a ≠ b) ∧ Stt K G n Z H (env.set i none) σ (F.set i []) := by
  obtain ⟨v, fp, e1, e2, r⟩ := s.at_ i d h
  obtain ⟨nd, ap⟩ := flat_drop F i fp e2 s.nd
  have sub : ∀ a ∈ (F.set i []).flatten, a ∈ F.flatten := fun a m => (flat_set F i [] a m).elim (fun z => (nomatch z)) id
  refine ⟨v, fp, e1, e2, ⟨r, nd, fun a m => s.nz a (memF e2 a m), fun a m => s.nb a (memF e2 a m)⟩, ap, ⟨s.gd, by rw [List.length_set]; exact s.len, by rw [List.length_set, List.length_set]; exact s.lenF, fun j d' h' => ?_, flat_set_nd F i [] s.nd List.nodup_nil (fun a m => (nomatch m)), fun a m => s.nz a (sub a m), fun a m => s.nb a (sub a m), fun a m => s.mt a (sub a m)⟩⟩
  by_cases hj : i = j
  · subst hj
    have hi : i < env.length := (List.getElem?_eq_some_iff.mp h).1
    rw [List.getElem?_set_self hi] at h'
    cases h'
  · rw [List.getElem?_set_ne hj] at h'
    obtain ⟨v', f', e1', e2', r'⟩ := s.at_ j d' h'
    exact ⟨v', f', e1', by rw [List.getElem?_set_ne hj]; exact e2', r'⟩
theorem jm_mv (i : Nat) (h : PE X e (tVar i)) : JM X W G 0 e (rMv i) := peImp h fun σ H Q h => by
  obtain ⟨n, Z, env, F, Q', E', l, s, t, q, x⟩ := h
  unfold rMv at t
  split at t
  · rename_i d hd
    obtain ⟨v, fp, e1, e2, o, ap, s2⟩ := s.take hd
    refine ⟨v, e1, q d v fp Z _ _ H s2 o ap ⟨fun _ _ h _ _ => h, fun _ u h => ⟨u, h⟩, fun _ z => z, fun _ z => .inl z, fun a m => ?_⟩ t⟩
    rcases List.mem_append.mp m with m | m
    · exact .inl (memF e2 a m)
    · exact .inl ((flat_set F i [] a m).elim (fun z => (nomatch z)) id)
  · exact t.elim

/-! targets -/
abbrev RG := D → Ev → (Ev → Prop) → Prop
def liG (X : Cx) (G : Bg) (ks : List Nat) (g : RG) : TG := fun v σ H Q => ∃ (n : Nat) (Z : Zs) (env : Ev) (F : List (List Addr)) (d : D) (fp : List Addr) (Q' : Ev → Prop), Stt X.K G n Z H env σ F ∧ Ob X.K G Z H d v fp ∧ (∀ a ∈ fp, ∀ b ∈ F.flatten, a ≠ b) ∧ g d env Q' ∧
  ∀ env' σ' F', Stt X.K G n Z H env' σ' F' → (∀ a ∈ F'.flatten, a ∈ fp ∨ a ∈ F.flatten) → (σ'.length = σ.length ∧ ∀ j, j ∉ ks → σ'[j]? = σ[j]?) → Q' env' → Q σ' H
def JG (X : Cx) (G : Bg) (ks : List Nat) (tg : Expr) (g : RG) : Prop := PG X tg (liG X G ks g)
theorem pgImp {tg : Expr} {g g' : TG} (h : PG X tg g) (k : ∀ v σ H Q, g' v σ H Q → g v σ H Q) : PG X tg g' := ⟨fun pins s σ H v u Q I r q => h.run pins s σ H v u Q I r (k v σ H Q q)⟩
def gNm (i : Nat) : RG := fun d env Q => Q (env.set i (some d))
theorem jg_name {i : Nat} {tg : Expr} (h : PG X tg (gName i)) : JG X G [i] tg (gNm i) := pgImp h fun v σ H Q h => by
  obtain ⟨n, Z, env, F, d, fp, Q', s, o, ap, t, q⟩ := h
  exact q _ _ _ (s.store o ap i) (fun a m => flat_set F i fp a m) ⟨List.length_set, fun j hj => List.getElem?_set_ne fun e => hj (by simp [e])⟩ t

/-! statements -/
def rAsg (t : RM) (g : RG) : RS := fun P env => t env (fun d env' => g d env' P.nx) (fun x env' => P.ex x env')
def rRet (t : RM) : RS := fun P env => t env (fun d _ => P.rt d) (fun x env' => P.ex x env')
def rDrop (t : RM) : RS := fun P env => t env (fun _ env' => P.nx env') (fun x env' => P.ex x env')
theorem js_asg {tg : Expr} {t : RM} {g : RG} {ks : List Nat} (he : JM X W G c e t) (hg : JG X G ks tg g) (hs : swapsWithSole [tg] e pos.line X.env = pure false := by rfl) (hw : swappedStores [tg] e X.env = pure none := by rfl)
    (h1 : (assignEach [tg] X.env).map (·.2) = [assign tg X.env] := by rfl) : JS X W G c (.Assign [tg] e pos) (rAsg t g) :=
  psImp (ps_asg he hg hs hw h1) fun Dn σ H h => by
    obtain ⟨n, Z, env, F, P, l, s, t, qn, qb, qc, qr, qx⟩ := h
    refine ⟨n, Z, env, F, _, _, l, s, t, fun d v fp Z1 env1 F1 H1 s1 o1 ap st t1 => ?_, fun x cls da Z1 env1 F1 H1 e1 xr t1 => qx x cls da Z1 env1 σ H1 F1 e1 xr t1⟩
    refine ⟨n + c, Z1, env1, F1, d, fp, P.nx, s1, o1, ap, t1, fun env2 σ2 F2 s2 sub _ t2 => qn Z1 env2 σ2 H1 F2 ⟨⟨st.keep, st.there, st.zz, st.zn, fun a m => ?_⟩, s2⟩ t2⟩
    exact st.fn a (List.mem_append.mpr (sub a m))
theorem js_set {i : Nat} {x : Str} {p' : Pos} {t : RM} (hN : X.N.Nodup) (hi : X.N[i]? = some x) (hx : Loc X.env.scope x) (he : JM X W G c e t) (hs : swapsWith e (some (.Name x p')) pos.line X.env = pure false := by rfl) (hf : X.fn x = true ∨ X.env.scope.names.lookup x = some .local := by first | exact .inl rfl | exact .inr rfl | assumption) :
    JS X W G c (.Assign [.Name x p'] e pos) (rAsg t (gNm i)) := psImp (ps_set hN hi hx he hs hf) fun Dn σ H h => by
    obtain ⟨n, Z, env, F, P, l, s, t, qn, qb, qc, qr, qx⟩ := h
    refine ⟨n, Z, env, F, _, _, l, s, t, fun d v fp Z1 env1 F1 H1 s1 o1 ap st t1 => ?_, fun x cls da Z1 env1 F1 H1 e1 xr t1 => qx x cls da Z1 env1 σ H1 F1 e1 xr t1⟩
    refine qn Z1 _ _ H1 _ ⟨⟨st.keep, st.there, st.zz, st.zn, fun a m => ?_⟩, s1.store o1 ap i⟩ t1
    exact st.fn a (List.mem_append.mpr (flat_set F1 i fp a m))
theorem js_ret {t : RM} (he : JM X W G c e t) : JS X W G c (.Return (some e) pos) (rRet t) := psImp (ps_ret he) fun Dn σ H h => by
    obtain ⟨n, Z, env, F, P, l, s, t, qn, qb, qc, qr, qx⟩ := h
    refine ⟨n, Z, env, F, _, _, l, s, t, fun d v fp Z1 env1 F1 H1 s1 o1 ap st t1 => ?_, fun x cls da Z1 env1 F1 H1 e1 xr t1 => qx x cls da Z1 env1 σ H1 F1 e1 xr t1⟩
    exact qr d v fp Z1 H1 ⟨st.keep, st.there, st.zz, st.zn, fun a m => st.fn a (List.mem_append_left _ m)⟩ s1.gd o1 t1
theorem js_retN : JS X W G 0 (.Return none pos) (fun P _ => P.rt .non) := psImp ps_retN fun Dn σ H h => by
    obtain ⟨n, Z, env, F, P, l, s, t, qn, qb, qc, qr, qx⟩ := h
    exact qr .non .non [] Z H Stp.refl0 (s.gd.up (by omega)) (Ob.flat ⟨rfl, rfl⟩) t
theorem js_expr {t : RM} (he : JM X W G c e t) (hs : swapsWith e none pos.line X.env = pure false := by rfl) : JS X W G c (.Expr e pos) (rDrop t) := psImp (ps_expr he hs) fun Dn σ H h => by
    obtain ⟨n, Z, env, F, P, l, s, t, qn, qb, qc, qr, qx⟩ := h
    refine ⟨n, Z, env, F, _, _, l, s, t, fun d v fp Z1 env1 F1 H1 s1 o1 ap st t1 => ?_, fun x cls da Z1 env1 F1 H1 e1 xr t1 => qx x cls da Z1 env1 σ H1 F1 e1 xr t1⟩
    exact qn Z1 env1 σ H1 F1 ⟨⟨st.keep, st.there, st.zz, st.zn, fun a m => st.fn a (List.mem_append_right _ m)⟩, s1⟩ t1
/-! tests at the level of statements: nothing is shared by them -/
abbrev RTS := Ev → (Bool → Prop) → (XD → Ev → Prop) → Prop
def rIfS (ms : List Bool) (tt : RT) (t u : RS) : RS := fun P env => tt (mask ms env) (fun b => match b with
  | true => t P env
  | false => u P env) (fun x => P.ex x (frzS ms env))
theorem Send.ofKept {K : PySem.W.Frag} {n : Nat} {Z Z1 : Zs} {H H1 : Hp} {env : Ev} {σ : L2.St} {F : List (List Addr)} {ms : List Bool} {fp : List Addr} (s : Stt K G n Z H env σ F) (r : Rs K G n c (fun a => Z a ∨ a ∈ pickF ms F) H Z1 H1 fp) : Send K G n c Z H F.flatten Z env σ H1 F :=
  let ⟨s2, st2⟩ := s.kept r
  ⟨⟨st2.keep, st2.there, st2.zz, st2.zn, fun a m => st2.fn a (List.mem_append_right _ m)⟩, s2⟩
/-- from a test on: the rest of a statement from its own place -/
theorem liSt.from {t : RS} {n : Nat} {Z Z1 : Zs} {H H1 : Hp} {env1 : Ev} {σ1 : L2.St} {F F1 : List (List Addr)} {P : Pst} {Dn : Ends} (e1 : Send X.K G n c1 Z H F.flatten Z1 env1 σ1 H1 F1) (l : n + (c1 + c2) ≤ lim) (t1 : t P env1)
    (qn : ∀ Z' env' σ' H' F', Send X.K G n (c1 + c2) Z H F.flatten Z' env' σ' H' F' → P.nx env' → Dn.nx σ' H') (qb : ∀ Z' env' σ' H' F', Send X.K G n (c1 + c2) Z H F.flatten Z' env' σ' H' F' → P.bk env' → Dn.bk σ' H')
    (qc : ∀ Z' env' σ' H' F', Send X.K G n (c1 + c2) Z H F.flatten Z' env' σ' H' F' → P.ct env' → Dn.ct σ' H') (qr : ∀ d v fp Z' H', Stp G F.flatten Z H F.flatten Z' H' fp → Gd G (n + (c1 + c2)) Z' H' → Ob X.K G Z' H' d v fp → P.rt d → Dn.rt v H')
    (qx : ∀ x cls da Z' env' σ' H' F', Send X.K G n (c1 + c2) Z H F.flatten Z' env' σ' H' F' → Xr X.K X.mg G Z' H' cls da x → P.ex x env' → W cls da σ' H') : liSt X W G c2 t Dn σ1 H1 :=
  ⟨n + c1, Z1, env1, F1, P, by omega, e1.stt, t1, fun Z2 env2 σ2 H2 F2 e2 t2 => qn Z2 env2 σ2 H2 F2 (e1.trans e2) t2, fun Z2 env2 σ2 H2 F2 e2 t2 => qb Z2 env2 σ2 H2 F2 (e1.trans e2) t2, fun Z2 env2 σ2 H2 F2 e2 t2 => qc Z2 env2 σ2 H2 F2 (e1.trans e2) t2,
    fun d v fp Z2 H2 s2 g2 o2 t2 => qr d v fp Z2 H2 (e1.st.trans s2 fun a m => e1.st.fn a m) (by rw [← Nat.add_assoc]; exact g2) o2 t2, fun x cls da Z2 env2 σ2 H2 F2 e2 xr t2 => qx x cls da Z2 env2 σ2 H2 F2 (e1.trans e2) xr t2⟩
theorem js_if (ms : List Bool) {ec : Expr} {c3 : Nat} (hc : JT X W G c1 ec tt) (ha : JB X W G c2 a t) (hb : JB X W G c3 b u) : JS X W G (c1 + (c2 + c3)) (.If ec a b pos) (rIfS ms tt t u) := psImp (ps_if hc ha hb) fun Dn σ H h => by
    obtain ⟨n, Z, env, F, P, l, s, t, qn, qb, qc, qr, qx⟩ := h
    obtain ⟨g, w⟩ := s.view ms
    refine ⟨n, _, mask ms env, _, _, ⟨g, by omega⟩, w, t, fun b Z1 H1 r1 t1 => ?_, fun y cls da Z1 H1 r1 xr e1 => qx y cls da Z1 _ σ H1 _ (s.fails r1).up xr e1⟩
    have e1 := Send.ofKept s r1
    cases b with
    | true =>
      show if true = true then _ else _
      rw [if_pos rfl]
      exact liSt.from (F := F) (P := P) e1 (by omega) t1 (fun Z' env' σ' H' F' e => qn Z' env' σ' H' F' (by rw [← Nat.add_assoc]; exact e.up)) (fun Z' env' σ' H' F' e => qb Z' env' σ' H' F' (by rw [← Nat.add_assoc]; exact e.up)) (fun Z' env' σ' H' F' e => qc Z' env' σ' H' F' (by rw [← Nat.add_assoc]; exact e.up))
        (fun d v fp Z' H' st g o => qr d v fp Z' H' st (g.up (by omega)) o) (fun x cls da Z' env' σ' H' F' e => qx x cls da Z' env' σ' H' F' (by rw [← Nat.add_assoc]; exact e.up))
    | false =>
      show if false = true then _ else _
      rw [if_neg Bool.false_ne_true]
      exact liSt.from (F := F) (P := P) e1 (by omega) t1 (fun Z' env' σ' H' F' e => qn Z' env' σ' H' F' (by rw [Nat.add_left_comm c1 c2]; exact e.up')) (fun Z' env' σ' H' F' e => qb Z' env' σ' H' F' (by rw [Nat.add_left_comm c1 c2]; exact e.up')) (fun Z' env' σ' H' F' e => qc Z' env' σ' H' F' (by rw [Nat.add_left_comm c1 c2]; exact e.up'))
        (fun d v fp Z' H' st g o => qr d v fp Z' H' st (g.up (by omega)) o) (fun x cls da Z' env' σ' H' F' e => qx x cls da Z' env' σ' H' F' (by rw [Nat.add_left_comm c1 c2]; exact e.up'))

/-! a, b = .. -/
theorem ObL.split {K : PySem.W.Frag} {Z : Zs} {H : Hp} {d : D} {ds : List D} {vs : List V} {fp : List Addr} (o : ObL K G Z H (d :: ds) vs fp) :
    ∃ v us f1 f2, vs = v :: us ∧ fp = f1 ++ f2 ∧ Ob K G Z H d v f1 ∧ ObL K G Z H ds us f2 ∧ ∀ a ∈ f1, ∀ b ∈ f2, a ≠ b := by
  obtain ⟨v, us, f1, f2, e, r, rs, ef⟩ := o.rp
  subst ef
  obtain ⟨n1, n2, n3⟩ := List.nodup_append.mp o.nd
  exact ⟨v, us, f1, f2, e, rfl, ⟨r, n1, fun a m => o.nz a (List.mem_append_left _ m), fun a m => o.nb a (List.mem_append_left _ m)⟩, ⟨rs, n2, fun a m => o.nz a (List.mem_append_right _ m), fun a m => o.nb a (List.mem_append_right _ m)⟩, n3⟩
abbrev RGs := List D → Ev → (Ev → Prop) → Prop
def liGs (X : Cx) (G : Bg) (ks : List Nat) (g : RGs) : TGs := fun vs σ H Q => ∃ (n : Nat) (Z : Zs) (env : Ev) (F : List (List Addr)) (ds : List D) (fp : List Addr) (Q' : Ev → Prop), Stt X.K G n Z H env σ F ∧ ObL X.K G Z H ds vs fp ∧ (∀ a ∈ fp, ∀ b ∈ F.flatten, a ≠ b) ∧ g ds env Q' ∧
  ∀ env' σ' F', Stt X.K G n Z H env' σ' F' → (∀ a ∈ F'.flatten, a ∈ fp ∨ a ∈ F.flatten) → (σ'.length = σ.length ∧ ∀ j, j ∉ ks → σ'[j]? = σ[j]?) → Q' env' → Q σ' H
def JGs (X : Cx) (G : Bg) (ks : List Nat) (ts : List Expr) (g : RGs) : Prop := PGs X ts (liGs X G ks g)
theorem pgsImp {tg : List Expr} {g g' : TGs} (h : PGs X tg g) (k : ∀ v σ H Q, g' v σ H Q → g v σ H Q) : PGs X tg g' := ⟨fun pins s σ H v u Q I r q => h.run pins s σ H v u Q I r (k v σ H Q q)⟩
def gsNil : RGs := fun ds env Q => ds = [] ∧ Q env
def gsCons (g : RG) (gs : RGs) : RGs := fun ds env Q => match ds with
  | d :: r => g d env fun env' => gs r env' Q
  | [] => False
theorem jgs_nil : JGs X G [] [] gsNil := pgsImp pgs_nil fun v σ H Q h => by
  obtain ⟨n, Z, env, F, ds, fp, Q', s, o, ap, ⟨e, t⟩, q⟩ := h
  subst e
  exact ⟨o.rp.1, q env σ F s (fun a m => .inr m) ⟨rfl, fun _ _ => rfl⟩ t⟩
theorem jgs_cons {e1 : Expr} {es : List Expr} {g : RG} {gs : RGs} {k1 k2 : List Nat} (h1 : JG X G k1 e1 g) (h2 : JGs X G k2 es gs) (ha : (assignEach (e1 :: es) X.env).map (·.2) = assign e1 X.env :: (assignEach es X.env).map (·.2) := by rfl) : JGs X G (k1 ++ k2) (e1 :: es) (gsCons g gs) := pgsImp (pgs_cons h1 h2 ha) fun v σ H Q h => by
  obtain ⟨n, Z, env, F, ds, fp, Q', s, o, ap, t, q⟩ := h
  cases ds with
  | nil => exact t.elim
  | cons d r =>
    obtain ⟨v1, us, f1, f2, e, ef, o1, o2, ap2⟩ := o.split
    subst ef
    refine ⟨v1, us, e, n, Z, env, F, d, f1, _, s, o1, fun a ha => ap a (List.mem_append_left _ ha), t, fun env1 σ1 F1 s1 sub kp t1 => ?_⟩
    refine ⟨n, Z, env1, F1, r, f2, Q', s1, o2, fun a ha b hb => ?_, t1, fun env2 σ2 F2 s2 sub2 kp2 t2 => q env2 σ2 F2 s2 (fun a m => ?_) ⟨kp2.1.trans kp.1, fun j hj => (kp2.2 j fun z => hj (List.mem_append_right _ z)).trans (kp.2 j fun z => hj (List.mem_append_left _ z))⟩ t2⟩
    · rcases sub b hb with z | z
      · exact fun e => ap2 b z a ha e.symm
      · exact ap a (List.mem_append_right _ ha) b z
    · rcases sub2 a m with z | z
      · exact .inl (List.mem_append_right _ z)
      · exact (sub a z).elim (fun z => .inl (List.mem_append_left _ z)) .inr
def gTp (n : Nat) (gs : RGs) : RG := fun d env Q => match d with
  | .tup ds => ds.length = n ∧ gs ds env Q
  | _ => False
theorem jg_tup {es : List Expr} {k n : Nat} {gs : RGs} {ks : List Nat} (hc : X.calm = true) (h : JGs X G ks es gs) (hn : (assignEach es X.env).length = n := by rfl) (hst : (assignEach es X.env).findIdx? (·.1) = none := by rfl) : JG X G ks (.Tuple es k pos) (gTp n gs) := pgImp (pg_tup hc h hn hst) fun v σ H Q h => by
  obtain ⟨m, Z, env, F, d, fp, Q', s, o, ap, t, q⟩ := h
  unfold gTp at t
  split at t
  · rename_i ds
    obtain ⟨a, vs, e, sq, r⟩ := o.rp
    exact ⟨a, vs, e, .of sq, by rw [r.len]; exact t.1, m, Z, env, F, ds, fp, Q', s, ⟨r, o.nd, o.nz, o.nb⟩, ap, t.2, q⟩
  · exact t.elim
def rPar (i j : Nat) (ms : List Bool) (ta : RA) : RS := fun P env => ta (mask ms env) (fun ds => match ds with
  | [a, b] => P.nx (((aft ms env (.tup [a, b])).set i (some a)).set j (some b))
  | _ => False) (fun x => P.ex x (frzS ms env))
theorem js_par {i j : Nat} {x y : Str} {a b : Expr} {ta : RA} {px py pt : Pos} {kt k2 : Nat} {pt2 : Pos} (ms : List Bool) (hc : X.calm = true) (hN : X.N.Nodup) (hi : X.N[i]? = some x) (hj : X.N[j]? = some y) (hij : i ≠ j)
    (hx : X.env.scope.names.lookup x = some .local) (hy : X.env.scope.names.lookup y = some .local) (ha : JA X W G c [a, b] ta)
    (hw : swappedStores [.Tuple [.Name x px, .Name y py] kt pt] (.Tuple [a, b] k2 pt2) X.env = pure (some [x, y]))
    (hs : swapsWithSole [.Tuple [.Name x px, .Name y py] kt pt] (.Tuple [a, b] k2 pt2) pos.line X.env = pure false := by rfl) :
    JS X W G c (.Assign [.Tuple [.Name x px, .Name y py] kt pt] (.Tuple [a, b] k2 pt2) pos) (rPar i j ms ta) := psImp (ps_par hc hN hi hj hij hx hy ha hw hs) fun Dn σ H h => by
  obtain ⟨n, Z, env, F, P, l, s, t, qn, qb, qc, qr, qx⟩ := h
  obtain ⟨g, w⟩ := s.view ms
  refine ⟨n, _, mask ms env, _, _, ⟨g, l⟩, w, t, fun ds vs fp Z1 H1 r1 o1 t1 => ?_, fun y cls da Z1 H1 r1 xr e1 => qx y cls da Z1 _ σ H1 _ (s.fails r1) xr e1⟩
  split at t1
  · rename_i d1 d2
    obtain ⟨Z2, F2, s2, o2, ap, st⟩ := s.afterL r1 o1
    obtain ⟨v1, us, f1, f2, e, ef, oa, ob, ap2⟩ := o2.split
    obtain ⟨v2, us2, f3, f4, e', ef', ob2, on, ap3⟩ := ob.split
    have e2 : us2 = [] := on.rp.1
    have e3 : f4 = [] := on.rp.2
    subst e2 e3 ef ef'
    refine ⟨v1, v2, by rw [e, e'], ?_⟩
    have s3 := s2.store oa (fun a ha => ap a (List.mem_append_left _ ha)) i
    have s4 := s3.store ob2 (fun a ha b hb => by
      rcases flat_set F2 i f1 b hb with z | z
      · exact fun e => ap2 b z a (List.mem_append_left _ ha) e.symm
      · exact ap a (List.mem_append_right _ (List.mem_append_left _ ha)) b z) j
    refine qn Z2 _ _ H1 _ ⟨⟨st.keep, st.there, st.zz, st.zn, fun a m => st.fn a ?_⟩, s4⟩ t1
    rcases flat_set _ j f3 a m with z | z
    · exact List.mem_append_left _ (List.mem_append_right _ (List.mem_append_left _ z))
    · rcases flat_set _ i f1 a z with z | z
      · exact List.mem_append_left _ (List.mem_append_left _ z)
      · exact List.mem_append_right _ z
  · exact t1.elim
end
end TT

set_option Elab.async false
set_option linter.all false
set_option maxRecDepth 100000
namespace TT
open PySem PySem.Spec PyProof.Rows L2

/-! ### what is walked -/
structure Later (Z : Zs) (H : Hp) (Z2 : Zs) (H2 : Hp) : Prop where
  kp : ∀ a o, H a = some o → (¬ Mut (some o) ∨ Z a) → H2 a = some o
  zz : ∀ a, Z a → Z2 a
structure Wlk (K : PySem.W.Frag) (G : Bg) (J : It) (items : List D) (Z : Zs) (H : Hp) : Prop where
  go : ∀ Z2 H2 i, Later Z H Z2 H2 → i < items.length → J.go i H2
  yl : ∀ Z2 H2 n i x H' d, Later Z H Z2 H2 → Gd G n Z2 H2 → items[i]? = some d → J.yld i H2 x H' → Stp G [] Z2 H2 [] Z2 H' [] ∧ Gd G n Z2 H' ∧ Rp K G Z2 H' d x []
  st : ∀ Z2 H2, Later Z H Z2 H2 → J.stop items.length H2
abbrev RI := Ev → (List D → Prop) → (XD → Prop) → Prop
def liI (X : Cx) (W : WX) (G : Bg) (c : Nat) (t : RI) : TI := fun σ H R => ∃ (n : Nat) (Z : Zs) (env : Ev) (Q' : List D → Prop) (E' : XD → Prop),
  Pre G n c Z H ∧ Vw X.K G Z H env σ ∧ t env Q' E' ∧
  (∀ items J Z' H', Rs X.K G n c Z H Z' H' [] → Wlk X.K G J items Z' H' → Q' items → R J H') ∧
  (∀ x cls da Z' H', Rs X.K G n c Z H Z' H' [] → Xr X.K X.mg G Z' H' cls da x → E' x → W cls da σ H')
def JI (X : Cx) (W : WX) (G : Bg) (c : Nat) (tg e : Expr) (t : RI) : Prop := PI X tg e (liI X W G c t)
theorem piImp {X : Cx} {tg e : Expr} {t t' : TI} (h : PI X tg e t) (k : ∀ σ H R, t' σ H R → t σ H R) : PI X tg e t' := ⟨fun pins s σ H R I q => h.run pins s σ H R I (k σ H R q)⟩
section
variable {X : Cx} {W : WX} {G : Bg} {c c1 c2 : Nat} {tg e : Expr} {es : List Expr} {te : RE} {pos : Pos}
/-- a list, a tuple, a text -/
theorem pi_any {l : Expr} {tl : TE} (hl : PE X l tl) : PI X tg l (fun σ H R => tl σ H fun x H1 => (∃ a, x = .ref a ∧ (∃ xs, SqL X.K H1 a xs) ∧ R (Itl X.K a) H1) ∨ (∃ a, x = .ref a ∧ (∃ xs, SqT X.K H1 a xs) ∧ R (Itt X.K a) H1) ∨ ∃ z, x = .str z ∧ R (Its z) H1) := by
  refine ⟨fun pins s σ H R I h => ?_⟩
  refine thn (hl.run pins s σ H _ I h) fun v s1 ⟨x, H1, I1, r1, q1⟩ => ?_
  rcases q1 with ⟨a, e, ⟨xs, hq⟩, q⟩ | ⟨a, e, ⟨xs, hq⟩, q⟩ | ⟨z, e, q⟩
  · subst e
    cases r1
    obtain ⟨its, rv, p, hz⟩ := I1.list hq
    refine wpAny_pyIter_list p.isList ?_
    refine ⟨s1.heap.objs.size, [s1.heap.objs.size], _, _, H1, rfl, I1.kept (t' := s1.toks) fun b o e => Heap.get?_push_of_some _ e, turn_list a _, ⟨_, Heap.get?_push_size _ rfl, rfl, rfl⟩, fun b hb => ?_, q⟩
    have e : b = s1.heap.objs.size := by simpa using hb
    subst e
    exact I1.fpOk (Nat.le_refl _) (I1.hok.fresh (Nat.le_refl _))
  · subst e
    cases r1
    obtain ⟨its, rv, p, hz⟩ := I1.tuple hq
    refine wpAny_pyIter_tuple (show s1.heap.IsTuple a its.toArray from p) ?_
    refine ⟨s1.heap.objs.size, [s1.heap.objs.size], _, _, H1, rfl, I1.kept (t' := s1.toks) fun b o e => Heap.get?_push_of_some _ e, turn_tuple a _, ⟨_, Heap.get?_push_size _ rfl, rfl, rfl⟩, fun b hb => ?_, q⟩
    have e : b = s1.heap.objs.size := by simpa using hb
    subst e
    exact I1.fpOk (Nat.le_refl _) (I1.hok.fresh (Nat.le_refl _))
  · subst e
    obtain ⟨t, rfl⟩ := r1
    cases ha : z.cps.all (· < 128)
    · exact wpAny_pyIter_wide ha (pi_one (tk := s1.toks) I1 _ (turn_str _ z t "str_iterator" (.inr rfl)) ⟨_, Heap.get?_push_size _ rfl, rfl, rfl⟩ q)
    · exact wpAny_pyIter_ascii ha (pi_one (tk := s1.toks) I1 _ (turn_str _ z t "str_ascii_iterator" (.inl rfl)) ⟨_, Heap.get?_push_size _ rfl, rfl, rfl⟩ q)
def strD (z : Str) : List D := z.cps.toList.map fun c => D.str ⟨#[c]⟩
def iAny : D → (List D → Prop) → Prop := fun d Q => match d with
  | .lst _ ds => Q (frzL ds)
  | .tup ds => Q (frzL ds)
  | .str z => Q (strD z)
  | _ => False
theorem sqLLater {K : PySem.W.Frag} {Z Z2 : Zs} {H H2 : Hp} {a : Addr} {vs : List V} (l : Later Z H Z2 H2) (h : H a = some (.lst vs)) (z : Z a) : SqL K H2 a vs := .inl (.inl (l.kp a _ h (.inr z)))
theorem sqTLater {K : PySem.W.Frag} {Z Z2 : Zs} {H H2 : Hp} {a : Addr} {vs : List V} (l : Later Z H Z2 H2) (h : SqT K H a vs) : SqT K H2 a vs := sqtKeep h fun o e n => l.kp a o e (.inl n)
theorem rpLater {K : PySem.W.Frag} {Z Z2 : Zs} {H H2 : Hp} {d : D} {v : V} (l : Later Z H Z2 H2) (r : Rp K G Z H d v []) : Rp K G Z2 H2 d v [] :=
  Rp.keep l.zz d v [] (fun a o e cs => l.kp a o e (cs.elim .inl fun cs => cs.elim .inr fun m => (nomatch m))) r
theorem wlk_lst {K : PySem.W.Frag} {Z : Zs} {H : Hp} {a : Addr} {vs : List V} {ds : List D} (h : H a = some (.lst vs)) (z : Z a) (r : RpL K G Z H ds vs []) : Wlk K G (Itl K a) ds Z H where
  go := fun Z2 H2 i l hi => ⟨vs, vs[i]'(by rw [r.len]; exact hi), sqLLater l h z, List.getElem?_eq_getElem _⟩
  yl := fun Z2 H2 n i x H' d l g hd hy => by
    obtain ⟨e, f⟩ := hy
    subst e
    obtain ⟨v, e1, rp⟩ := r.get0 hd
    have := f vs (sqLLater l h z)
    rw [e1] at this
    cases this
    exact ⟨Stp.refl0, g, rpLater l rp⟩
  st := fun Z2 H2 l => ⟨vs, sqLLater l h z, by rw [r.len]; exact Nat.le_refl _⟩
theorem wlk_tup {K : PySem.W.Frag} {Z : Zs} {H : Hp} {a : Addr} {vs : List V} {ds : List D} (h : SqT K H a vs) (r : RpL K G Z H ds vs []) : Wlk K G (Itt K a) ds Z H where
  go := fun Z2 H2 i l hi => ⟨vs, vs[i]'(by rw [r.len]; exact hi), sqTLater l h, List.getElem?_eq_getElem _⟩
  yl := fun Z2 H2 n i x H' d l g hd hy => by
    obtain ⟨e, f⟩ := hy
    subst e
    obtain ⟨v, e1, rp⟩ := r.get0 hd
    have := f vs (sqTLater l h)
    rw [e1] at this
    cases this
    exact ⟨Stp.refl0, g, rpLater l rp⟩
  st := fun Z2 H2 l => ⟨vs, sqTLater l h, by rw [r.len]; exact Nat.le_refl _⟩

theorem wlk_str {K : PySem.W.Frag} {Z : Zs} {H : Hp} {z : Str} : Wlk K G (Its z) (strD z) Z H where
  go := fun Z2 H2 i l hi => by
    show i < z.cps.size
    have : i < (z.cps.toList.map fun c => D.str ⟨#[c]⟩).length := hi
    rw [List.length_map, Array.length_toList] at this
    exact this
  yl := fun Z2 H2 n i x H' d l g hd hy => by
    obtain ⟨e, ch, e1, e2⟩ := hy
    subst e e2
    have hd : (z.cps.toList.map fun c => D.str ⟨#[c]⟩)[i]? = some d := hd
    rw [List.getElem?_map, Array.getElem?_toList, e1] at hd
    have : D.str ⟨#[ch]⟩ = d := Option.some.inj hd
    subst this
    exact ⟨Stp.refl0, g, ⟨rfl, rfl⟩⟩
  st := fun Z2 H2 l => by
    show z.cps.size ≤ (z.cps.toList.map fun c => D.str ⟨#[c]⟩).length
    rw [List.length_map, Array.length_toList]
    exact Nat.le_refl _
def rngD (lo : Int) (n : Nat) : List D := (List.range n).map fun i => D.int (lo + (i : Nat))
theorem rngD_len (lo : Int) (n : Nat) : (rngD lo n).length = n := by unfold rngD; rw [List.length_map, List.length_range]
theorem wlk_rng {K : PySem.W.Frag} {Z : Zs} {H : Hp} {lo : Int} {n : Nat} : Wlk K G (Itr lo n) (rngD lo n) Z H where
  go := fun Z2 H2 i l hi => by rw [rngD_len] at hi; exact hi
  yl := fun Z2 H2 m i x H' d l g hd hy => by
    obtain ⟨e, e1⟩ := hy
    subst e e1
    unfold rngD at hd
    rw [List.getElem?_map] at hd
    cases q : (List.range n)[i]? with
    | none => rw [q] at hd; cases hd
    | some j =>
      rw [q] at hd
      have hj : j = i := by
        obtain ⟨h1, h2⟩ := List.getElem?_eq_some_iff.mp q
        rw [List.getElem_range] at h2
        exact h2.symm
      subst hj
      have : D.int (lo + (j : Nat)) = d := Option.some.inj hd
      subst this
      exact ⟨Stp.refl0, g, ⟨rfl, rfl⟩⟩
  st := fun Z2 H2 l => by rw [rngD_len]; exact Nat.le_refl _
theorem ji_any (h : JE X W G c e te) : JI X W G c tg e (fun env Q E => te env (fun d => iAny d Q) E) := piImp (pi_any h) fun σ H R h => by
  obtain ⟨n, Z, env, Q', E', p, w, t, q, x⟩ := h
  refine ⟨n, Z, env, _, E', p, w, t, fun d v fp Z1 H1 r1 o1 t1 => ?_, x⟩
  obtain ⟨g2, o2, s2⟩ := o1.share r1.gd
  have r2 := r1.op s2 g2
  unfold iAny at t1
  split at t1
  · rename_i ow ds
    obtain ⟨a, vs, ev, hr, hz, rr, _⟩ := o2
    exact .inl ⟨a, ev, ⟨vs, .inl (.inl hr)⟩, q _ _ _ H1 r2 (wlk_lst hr hz rr) t1⟩
  · rename_i ds
    obtain ⟨a, vs, ev, hr, rr⟩ := o2
    exact .inr (.inl ⟨a, ev, ⟨vs, .of hr⟩, q _ _ _ H1 r2 (wlk_tup (.of hr) rr) t1⟩)
  · rename_i z
    exact .inr (.inr ⟨z, o2.1, q _ _ _ H1 r2 wlk_str t1⟩)
  · exact t1.elim
def iRg1 : List D → (List D → Prop) → Prop := fun ds Q => match ds with
  | [.int j] => -(2 ^ 62) ≤ j ∧ j < 2 ^ 62 ∧ Q (rngD 0 j.toNat)
  | _ => False
def iRg2 : List D → (List D → Prop) → Prop := fun ds Q => match ds with
  | [.int i, .int j] => (-(2 ^ 62) ≤ i ∧ i < 2 ^ 62 ∧ -(2 ^ 62) ≤ j ∧ j < 2 ^ 62) ∧ Q (rngD i (j - i).toNat)
  | _ => False
theorem rpL1 {K : PySem.W.Frag} {Z : Zs} {H : Hp} {i : Int} {vs : List V} {fp : List Addr} (r : RpL K G Z H [.int i] vs fp) : vs = [.int i] := by
  obtain ⟨v, us, f1, f2, e, r1, r2, _⟩ := r
  have e1 : v = .int i := r1.1
  have e2 : us = [] := r2.1
  rw [e, e1, e2]
theorem rpL2 {K : PySem.W.Frag} {Z : Zs} {H : Hp} {i j : Int} {vs : List V} {fp : List Addr} (r : RpL K G Z H [.int i, .int j] vs fp) : vs = [.int i, .int j] := by
  obtain ⟨v, us, f1, f2, e, r1, r2, _⟩ := r
  have e1 : v = .int i := r1.1
  rw [e, e1, rpL1 r2]
theorem ji_rng1 {a : Expr} {ta : RA} {p : Pos} (hg : Gl X "range") (hm : X.mg "range" = none) (ha : JA X W G c [a] ta) (hs : starEach [a] X.env = [(false, eval a X.env)] := by rfl) : JI X W G c tg (.Call (.Name "range" p) [a] [] pos) (fun env Q E => ta env (fun ds => iRg1 ds Q) E) := piImp (pi_range1 hg hm ha hs) fun σ H R h => by
  obtain ⟨n, Z, env, Q', E', p, w, t, q, x⟩ := h
  refine ⟨n, Z, env, _, E', p, w, t, fun ds vs fp Z1 H1 r1 o1 t1 => ?_, x⟩
  unfold iRg1 at t1
  split at t1
  · rename_i j
    exact ⟨j, rpL1 o1.rp, t1.1, t1.2.1, q _ _ Z1 H1 r1.nofp wlk_rng t1.2.2⟩
  · exact t1.elim
theorem ji_rng2 {a b : Expr} {ta : RA} {p : Pos} (hg : Gl X "range") (hm : X.mg "range" = none) (ha : JA X W G c [a, b] ta) (hs : starEach [a, b] X.env = [(false, eval a X.env), (false, eval b X.env)] := by rfl) (hs2 : starEach [b] X.env = [(false, eval b X.env)] := by rfl) :
    JI X W G c tg (.Call (.Name "range" p) [a, b] [] pos) (fun env Q E => ta env (fun ds => iRg2 ds Q) E) := piImp (pi_range2 hg hm ha hs hs2) fun σ H R h => by
  obtain ⟨n, Z, env, Q', E', p, w, t, q, x⟩ := h
  refine ⟨n, Z, env, _, E', p, w, t, fun ds vs fp Z1 H1 r1 o1 t1 => ?_, x⟩
  unfold iRg2 at t1
  split at t1
  · rename_i i j
    exact ⟨i, j, rpL2 o1.rp, t1.1, q _ _ Z1 H1 r1.nofp wlk_rng t1.2⟩
  · exact t1.elim

/-! ### for -/
def rForL (g : RG) (t : RS) : List D → RS
  | [], P, env => P.nx env
  | d :: ds, P, env => g d env fun env1 => t { nx := rForL g t ds P, rt := P.rt, bk := P.nx, ct := rForL g t ds P, ex := P.ex } env1
theorem Later.ofSend {K : PySem.W.Frag} {n c : Nat} {Z Z2 : Zs} {H H2 : Hp} {env env2 : Ev} {σ σ2 : L2.St} {F F2 : List (List Addr)} (s : Stt K G n Z H env σ F) (e : Send K G n c Z H F.flatten Z2 env2 σ2 H2 F2) : Later Z H Z2 H2 := by
  refine ⟨fun a o h cs => e.st.keep a o h ?_ ?_, e.st.zz⟩
  · rcases cs with cs | cs
    · exact s.gd.notMut h cs
    · exact s.gd.nz a cs
  · intro m
    rcases cs with cs | cs
    · have := s.mt a m
      rw [h] at this
      exact cs this
    · exact s.nz a m cs
/-- the loop, from where its iterator stands -/
theorem for_run {ks : List Nat} {K : PySem.W.Frag} {g : RG} {t : RS} {N : Nat} {n : Nat} {Z : Zs} {H : Hp} {env : Ev} {σ : L2.St} {F : List (List Addr)} {P : Pst} {Dn : Ends} {items : List D} {J : It} {tn : TG} {tb : TS} (hK : K = X.K)
    (htn : ∀ v σ H Q, liG X G ks g v σ H Q → tn v σ H Q) (htb : ∀ Dn σ H, liSt X W G c2 t Dn σ H → tb Dn σ H)
    (s : Stt K G n Z H env σ F) (wl : Wlk K G J items Z H) (hN : items.length ≤ N ∨ c2 = 0) (l : n + N * c2 ≤ lim) (h : rForL g t items P env)
    (qn : ∀ Z' env' σ' H' F', Send K G n (N * c2) Z H F.flatten Z' env' σ' H' F' → P.nx env' → Dn.nx σ' H')
    (qr : ∀ d v fp Z' H', Stp G F.flatten Z H F.flatten Z' H' fp → Gd G (n + N * c2) Z' H' → Ob K G Z' H' d v fp → P.rt d → Dn.rt v H')
    (qx : ∀ x cls da Z' env' σ' H' F', Send K G n (N * c2) Z H F.flatten Z' env' σ' H' F' → Xr K X.mg G Z' H' cls da x → P.ex x env' → W cls da σ' H') :
    ∃ W : Nat → Nat → L2.St → Hp → Prop, (∃ m, W 0 m σ H) ∧ ∀ i m σ H, W i m σ H →
      (J.stop i H ∧ Dn.nx σ H) ∨ (J.go i H ∧ ∃ N : L2.St → Hp → Prop, (∀ σ' H', N σ' H' → ∃ m', m' < m ∧ W (i + 1) m' σ' H') ∧ ∀ x H', J.yld i H x H' → tn x σ H' fun σ2 H2 => tb { Dn with nx := N, ct := N, bk := Dn.nx } σ2 H2) := by
  subst hK
  have le : ∀ i, i ≤ items.length → i * c2 ≤ N * c2 := fun i hi => by
    rcases hN with hN | hN
    · exact Nat.mul_le_mul_right _ (Nat.le_trans hi hN)
    · subst hN; simp
  refine ⟨fun i m σ2 H2 => m = items.length - i ∧ i ≤ items.length ∧ ∃ Z2 env2 F2, Send X.K G n (i * c2) Z H F.flatten Z2 env2 σ2 H2 F2 ∧ rForL g t (items.drop i) P env2,
    ⟨items.length, by simp, Nat.zero_le _, Z, env, F, Send.refl s, by simpa using h⟩, fun i m σ2 H2 hW => ?_⟩
  obtain ⟨rfl, hi, Z2, env2, F2, e2, h2⟩ := hW
  have lt := Later.ofSend s e2
  have up : ∀ {Z' env' σ' H' F'}, Send X.K G n (i * c2) Z H F.flatten Z' env' σ' H' F' → Send X.K G n (N * c2) Z H F.flatten Z' env' σ' H' F' := fun e => ⟨e.st, e.stt.up (by have := le i hi; omega)⟩
  by_cases hlt : i < items.length
  · have hd : items[i]? = some items[i] := List.getElem?_eq_getElem hlt
    rw [List.drop_eq_getElem_cons hlt] at h2
    have le1 := le (i + 1) hlt
    rw [Nat.succ_mul] at le1
    refine .inr ⟨wl.go Z2 H2 i lt hlt, fun σ' H' => ∃ Z' env' F', Send X.K G n ((i + 1) * c2) Z H F.flatten Z' env' σ' H' F' ∧ rForL g t (items.drop (i + 1)) P env', fun σ' H' ⟨Z', env', F', e', h'⟩ => ⟨items.length - (i + 1), by omega, rfl, hlt, Z', env', F', e', h'⟩, fun x H' hy => ?_⟩
    obtain ⟨sy, gy, ry⟩ := wl.yl Z2 H2 _ i x H' _ lt e2.stt.gd hd hy
    -- the frame over the item
    have r0 : Rs X.K G (n + i * c2) 0 (fun a => Z2 a ∨ a ∈ pickF [] F2) H2 (fun a => Z2 a ∨ a ∈ pickF [] F2) H' [] := by
      refine ⟨⟨sy.keep, sy.there, fun _ z => z, fun _ z => .inl z, fun _ m => (nomatch m)⟩, ⟨gy.bag, fun a z => z.elim (gy.nz a) fun m => (nomatch m), fun a z => z.elim (gy.tr a) fun m => (nomatch m)⟩⟩
    obtain ⟨s3, st3⟩ := e2.stt.kept r0
    refine htn _ _ _ _ ⟨_, Z2, env2, F2, items[i], [], _, s3, Ob.flat ry, (fun a m => (nomatch m)), h2, fun env4 σ4 F4 s4 sub _ t4 => ?_⟩
    have e4 : Send X.K G n (i * c2) Z H F.flatten Z2 env4 σ4 H' F4 := by
      refine ⟨?_, s4⟩
      have q := e2.st.trans st3 (fun a m => e2.st.fn a m)
      refine ⟨q.keep, q.there, q.zz, q.zn, fun a m => q.fn a ?_⟩
      rcases sub a m with z | z
      · cases z
      · exact List.mem_append_right _ z
    have up1 : ∀ {Z' env' σ' H' F'}, Send X.K G n (i * c2 + c2) Z H F.flatten Z' env' σ' H' F' → Send X.K G n (N * c2) Z H F.flatten Z' env' σ' H' F' := fun e => ⟨e.st, e.stt.up (by omega)⟩
    have up2 : ∀ {Z' env' σ' H' F'}, Send X.K G n (i * c2 + c2) Z H F.flatten Z' env' σ' H' F' → Send X.K G n ((i + 1) * c2) Z H F.flatten Z' env' σ' H' F' := fun e => by rw [Nat.succ_mul]; exact e
    refine htb _ _ _ (liSt.from (c1 := i * c2) (F := F) (P := { nx := rForL g t (items.drop (i + 1)) P, rt := P.rt, bk := P.nx, ct := rForL g t (items.drop (i + 1)) P, ex := P.ex }) e4 (by omega) t4 (fun Z' env' σ' H' F' e q => ⟨Z', env', F', up2 e, q⟩) (fun Z' env' σ' H' F' e q => qn Z' env' σ' H' F' (up1 e) q) (fun Z' env' σ' H' F' e q => ⟨Z', env', F', up2 e, q⟩)
      (fun d v fp Z' H' st g o q => qr d v fp Z' H' st (g.up (by omega)) o q) fun x cls da Z' env' σ' H' F' e xr q => qx x cls da Z' env' σ' H' F' (up1 e) xr q)
  · have e : i = items.length := by omega
    subst e
    rw [List.drop_length] at h2
    exact .inl ⟨wl.st Z2 H2 lt, qn Z2 env2 σ2 H2 F2 (up e2) h2⟩

def rFor (ms : List Bool) (N : Nat) (ti : RI) (g : RG) (t : RS) : RS := fun P env => ti (mask ms env) (fun items => items.length ≤ N ∧ rForL g t items P (frzS ms env)) (fun x => P.ex x (frzS ms env))
def rFor0 (ms : List Bool) (ti : RI) (g : RG) (t : RS) : RS := fun P env => ti (mask ms env) (fun items => rForL g t items P (frzS ms env)) (fun x => P.ex x (frzS ms env))
/-- the items do not hang on the heap: what is one's own stays so -/
def rForR (ms : List Bool) (N : Nat) (ti : RI) (g : RG) (t : RS) : RS := fun P env => ti (mask ms env) (fun items => items.length ≤ N ∧ rForL g t items P env) (fun x => P.ex x (frzS ms env))
def rForR0 (ms : List Bool) (ti : RI) (g : RG) (t : RS) : RS := fun P env => ti (mask ms env) (fun items => rForL g t items P env) (fun x => P.ex x (frzS ms env))
def liIf (X : Cx) (W : WX) (G : Bg) (c : Nat) (t : RI) : TI := fun σ H R => ∃ (n : Nat) (Z : Zs) (env : Ev) (Q' : List D → Prop) (E' : XD → Prop),
  Pre G n c Z H ∧ Vw X.K G Z H env σ ∧ t env Q' E' ∧
  (∀ items J Z' H', Rs X.K G n c Z H Z' H' [] → (∀ Zx Hx, Wlk X.K G J items Zx Hx) → Q' items → R J H') ∧
  (∀ x cls da Z' H', Rs X.K G n c Z H Z' H' [] → Xr X.K X.mg G Z' H' cls da x → E' x → W cls da σ H')
def JIf (X : Cx) (W : WX) (G : Bg) (c : Nat) (tg e : Expr) (t : RI) : Prop := PI X tg e (liIf X W G c t)
theorem JIf.ji {ti : RI} (h : JIf X W G c tg e ti) : JI X W G c tg e ti := piImp h fun σ H R h => by
  obtain ⟨n, Z, env, Q', E', p, w, t, q, x⟩ := h
  exact ⟨n, Z, env, Q', E', p, w, t, fun items J Z' H' r wl => q items J Z' H' r (wl _ _), x⟩
theorem jf_rng1 {a : Expr} {ta : RA} {p : Pos} (hg : Gl X "range") (hm : X.mg "range" = none) (ha : JA X W G c [a] ta) (hs : starEach [a] X.env = [(false, eval a X.env)] := by rfl) : JIf X W G c tg (.Call (.Name "range" p) [a] [] pos) (fun env Q E => ta env (fun ds => iRg1 ds Q) E) := piImp (pi_range1 hg hm ha hs) fun σ H R h => by
  obtain ⟨n, Z, env, Q', E', p, w, t, q, x⟩ := h
  refine ⟨n, Z, env, _, E', p, w, t, fun ds vs fp Z1 H1 r1 o1 t1 => ?_, x⟩
  unfold iRg1 at t1
  split at t1
  · rename_i j
    exact ⟨j, rpL1 o1.rp, t1.1, t1.2.1, q _ _ Z1 H1 r1.nofp (fun _ _ => wlk_rng) t1.2.2⟩
  · exact t1.elim
theorem jf_rng2 {a b : Expr} {ta : RA} {p : Pos} (hg : Gl X "range") (hm : X.mg "range" = none) (ha : JA X W G c [a, b] ta) (hs : starEach [a, b] X.env = [(false, eval a X.env), (false, eval b X.env)] := by rfl) (hs2 : starEach [b] X.env = [(false, eval b X.env)] := by rfl) :
    JIf X W G c tg (.Call (.Name "range" p) [a, b] [] pos) (fun env Q E => ta env (fun ds => iRg2 ds Q) E) := piImp (pi_range2 hg hm ha hs hs2) fun σ H R h => by
  obtain ⟨n, Z, env, Q', E', p, w, t, q, x⟩ := h
  refine ⟨n, Z, env, _, E', p, w, t, fun ds vs fp Z1 H1 r1 o1 t1 => ?_, x⟩
  unfold iRg2 at t1
  split at t1
  · rename_i i j
    exact ⟨i, j, rpL2 o1.rp, t1.1, q _ _ Z1 H1 r1.nofp (fun _ _ => wlk_rng) t1.2⟩
  · exact t1.elim
theorem Send.mono {K : PySem.W.Frag} {n a b : Nat} {Z Z1 : Zs} {H H1 : Hp} {A : List Addr} {env1 : Ev} {σ1 : L2.St} {F1 : List (List Addr)} (s : Send K G n a Z H A Z1 env1 σ1 H1 F1) (l : a ≤ b) : Send K G n b Z H A Z1 env1 σ1 H1 F1 := ⟨s.st, s.stt.up (by omega)⟩
theorem forG {ks : List Nat} {ti : RI} {g : RG} {t : RS} {body : List Stmt} {N : Nat} (hp : PassesOwn (model X.prog X.w) X.A X.env X.xe) (hc : X.calm = true) (hi : JI X W G c1 tg e ti) (hg : JG X G ks tg g) (hb : JB X W G c2 body t) (ms : List Bool) (q : List D → Prop) (hq : ∀ items, q items → items.length ≤ N ∨ c2 = 0) (hs : ∀ x, foldedSetIterable e X.env x = pure x := by intro _; rfl) :
    JS X W G (c1 + N * c2) (.For tg e body [] pos) (fun P env => ti (mask ms env) (fun items => q items ∧ rForL g t items P (frzS ms env)) (fun x => P.ex x (frzS ms env))) := psImp (ps_for hp hc hi hg hb hs) fun Dn σ H h => by
  obtain ⟨n, Z, env, F, P, l, s, t, qn, qb, qc, qr, qx⟩ := h
  obtain ⟨gd, w⟩ := s.view ms
  refine ⟨n, _, mask ms env, _, _, ⟨gd, by omega⟩, w, t, fun items J Z1 H1 r1 wl t1 => ?_, fun y cls da Z1 H1 r1 xr e1 => qx y cls da Z1 _ σ H1 _ (s.fails r1).up xr e1⟩
  have e1 := s.fails r1
  obtain ⟨ql, t1⟩ := t1
  exact for_run (X := X) (W := W) (c2 := c2) (N := N) rfl (fun _ _ _ _ h => h) (fun _ _ _ h => h) e1.stt wl (hq _ ql) (by omega) t1 (fun Z' env' σ' H' F' e => qn Z' env' σ' H' F' (e1.trans e)) (fun d v fp Z' H' st g o => qr d v fp Z' H' (e1.st.trans st fun a m => e1.st.fn a m) (by rw [← Nat.add_assoc]; exact g) o)
    (fun x cls da Z' env' σ' H' F' e => qx x cls da Z' env' σ' H' F' (e1.trans e))
theorem forGR {ks : List Nat} {ti : RI} {g : RG} {t : RS} {body : List Stmt} {N : Nat} (hp : PassesOwn (model X.prog X.w) X.A X.env X.xe) (hc : X.calm = true) (hi : JIf X W G c1 tg e ti) (hg : JG X G ks tg g) (hb : JB X W G c2 body t) (ms : List Bool) (q : List D → Prop) (hq : ∀ items, q items → items.length ≤ N ∨ c2 = 0) (hs : ∀ x, foldedSetIterable e X.env x = pure x := by intro _; rfl) :
    JS X W G (c1 + N * c2) (.For tg e body [] pos) (fun P env => ti (mask ms env) (fun items => q items ∧ rForL g t items P env) (fun x => P.ex x (frzS ms env))) := psImp (ps_for hp hc hi hg hb hs) fun Dn σ H h => by
  obtain ⟨n, Z, env, F, P, l, s, t, qn, qb, qc, qr, qx⟩ := h
  obtain ⟨gd, w⟩ := s.view ms
  refine ⟨n, _, mask ms env, _, _, ⟨gd, by omega⟩, w, t, fun items J Z1 H1 r1 wl t1 => ?_, fun y cls da Z1 H1 r1 xr e1 => qx y cls da Z1 _ σ H1 _ (s.fails r1).up xr e1⟩
  have e1 := Send.ofKept s r1
  obtain ⟨ql, t1⟩ := t1
  exact for_run (X := X) (W := W) (c2 := c2) (N := N) rfl (fun _ _ _ _ h => h) (fun _ _ _ h => h) e1.stt (wl _ _) (hq _ ql) (by omega) t1 (fun Z' env' σ' H' F' e => qn Z' env' σ' H' F' (e1.trans e)) (fun d v fp Z' H' st g o => qr d v fp Z' H' (e1.st.trans st fun a m => e1.st.fn a m) (by rw [← Nat.add_assoc]; exact g) o)
    (fun x cls da Z' env' σ' H' F' e => qx x cls da Z' env' σ' H' F' (e1.trans e))
theorem js_for {ks : List Nat} {ti : RI} {g : RG} {t : RS} {body : List Stmt} (N : Nat) (ms : List Bool) (hp : PassesOwn (model X.prog X.w) X.A X.env X.xe) (hc : X.calm = true) (hi : JI X W G c1 tg e ti) (hg : JG X G ks tg g) (hb : JB X W G c2 body t) (hs : ∀ x, foldedSetIterable e X.env x = pure x := by intro _; rfl) : JS X W G (c1 + N * c2) (.For tg e body [] pos) (rFor ms N ti g t) :=
  forG hp hc hi hg hb ms (fun items => items.length ≤ N) (fun _ h => .inl h) hs
theorem js_forR {ks : List Nat} {ti : RI} {g : RG} {t : RS} {body : List Stmt} (N : Nat) (ms : List Bool) (hp : PassesOwn (model X.prog X.w) X.A X.env X.xe) (hc : X.calm = true) (hi : JIf X W G c1 tg e ti) (hg : JG X G ks tg g) (hb : JB X W G c2 body t) (hs : ∀ x, foldedSetIterable e X.env x = pure x := by intro _; rfl) : JS X W G (c1 + N * c2) (.For tg e body [] pos) (rForR ms N ti g t) :=
  forGR hp hc hi hg hb ms (fun items => items.length ≤ N) (fun _ h => .inl h) hs
theorem jsImp {st : Stmt} {t t' : RS} (h : JS X W G c st t) (k : ∀ P env, t' P env → t P env) : JS X W G c st t' := psImp h fun Dn σ H h => by
  obtain ⟨n, Z, env, F, P, l, s, t, q⟩ := h
  exact ⟨n, Z, env, F, P, l, s, k P env t, q⟩

/-! ### while -/
def rWhile (ms : List Bool) (N : Nat) (tt : RT) (t : RS) : RS := fun P env => ∃ (I : Nat → Ev → Prop) (m0 : Nat), m0 < N ∧ I m0 env ∧ ∀ m env, m ≤ m0 → I m env →
  tt (mask ms env) (fun b => match b with
    | true => t { nx := fun env' => ∃ m', m' < m ∧ I m' env', rt := P.rt, bk := P.nx, ct := fun env' => ∃ m', m' < m ∧ I m' env', ex := P.ex } env
    | false => P.nx env) (fun x => P.ex x (frzS ms env))
theorem js_while {tt : RT} {t : RS} {body : List Stmt} {ec : Expr} (ms : List Bool) (N : Nat) (hp : PassesOwn (model X.prog X.w) X.A X.env X.xe) (hc : JT X W G c1 ec tt) (hb : JB X W G c2 body t) : JS X W G (N * (c1 + c2)) (.While ec body [] pos) (rWhile ms N tt t) := psImp (ps_while hp hc hb) fun Dn σ H h => by
  obtain ⟨n, Z, env, F, P, l, s, t, qn, qb, qc, qr, qx⟩ := h
  obtain ⟨I, m0, hm0, i0, turn⟩ := t
  have le : ∀ m, m ≤ m0 → (m0 - m) * (c1 + c2) + (c1 + c2) ≤ N * (c1 + c2) := fun m h => by
    rw [← Nat.succ_mul]
    exact Nat.mul_le_mul_right _ (by omega)
  refine ⟨fun m σ2 H2 => m ≤ m0 ∧ ∃ Z2 env2 F2, Send X.K G n ((m0 - m) * (c1 + c2)) Z H F.flatten Z2 env2 σ2 H2 F2 ∧ I m env2, ⟨m0, Nat.le_refl _, Z, env, F, by rw [Nat.sub_self, Nat.zero_mul]; exact Send.refl s, i0⟩, fun m σ2 H2 hW => ?_⟩
  obtain ⟨hm, Z2, env2, F2, e2, i2⟩ := hW
  obtain ⟨gd, w⟩ := e2.stt.view ms
  have l1 := le m hm
  refine ⟨_, _, mask ms env2, _, _, ⟨gd, by omega⟩, w, turn m env2 hm i2, fun b Z3 H3 r3 t3 => ?_, fun y cls da Z3 H3 r3 xr e3 => qx y cls da Z3 _ σ2 H3 _ ((e2.trans (e2.stt.fails r3)).mono (by omega)) xr e3⟩
  have e3 := e2.trans (Send.ofKept e2.stt r3)
  cases b with
  | true =>
    show if true = true then _ else _
    rw [if_pos rfl]
    refine ⟨fun σ' H' => ∃ m', m' < m ∧ m' ≤ m0 ∧ ∃ Z4 env4 F4, Send X.K G n ((m0 - m') * (c1 + c2)) Z H F.flatten Z4 env4 σ' H' F4 ∧ I m' env4, fun σ' H' ⟨m', a1, a2, a3⟩ => ⟨m', a1, a2, a3⟩, ?_⟩
    have nxt : ∀ Z' env' σ' H' F', Send X.K G n ((m0 - m) * (c1 + c2) + c1 + c2) Z H F.flatten Z' env' σ' H' F' → (∃ m', m' < m ∧ I m' env') → ∃ m', m' < m ∧ m' ≤ m0 ∧ ∃ Z4 env4 F4, Send X.K G n ((m0 - m') * (c1 + c2)) Z H F.flatten Z4 env4 σ' H' F4 ∧ I m' env4 := fun Z' env' σ' H' F' e ⟨m', a1, a2⟩ => by
      refine ⟨m', a1, by omega, Z', env', F', e.mono ?_, a2⟩
      have : (m0 - m + 1) * (c1 + c2) ≤ (m0 - m') * (c1 + c2) := Nat.mul_le_mul_right _ (by omega)
      rw [Nat.succ_mul] at this
      omega
    exact liSt.from (c1 := (m0 - m) * (c1 + c2) + c1) (F := F) (P := { nx := fun env' => ∃ m', m' < m ∧ I m' env', rt := P.rt, bk := P.nx, ct := fun env' => ∃ m', m' < m ∧ I m' env', ex := P.ex }) e3 (by omega) t3 (fun Z' env' σ' H' F' e q => nxt Z' env' σ' H' F' e q) (fun Z' env' σ' H' F' e q => qn Z' env' σ' H' F' (e.mono (by omega)) q) (fun Z' env' σ' H' F' e q => nxt Z' env' σ' H' F' e q)
      (fun d v fp Z' H' st g o q => qr d v fp Z' H' st (g.up (by omega)) o q) (fun x cls da Z' env' σ' H' F' e xr q => qx x cls da Z' env' σ' H' F' (e.mono (by omega)) xr q)
  | false =>
    show if false = true then _ else _
    rw [if_neg Bool.false_ne_true]
    exact qn Z2 env2 σ2 H3 F2 (e3.mono (by omega)) t3
end
end TT

set_option Elab.async false
set_option linter.all false
set_option maxRecDepth 100000
namespace TT
open PySem PySem.Spec PyProof.Rows L2

/-! ### a def's promise by its body -/
def startE (N : List Str) (ds : List D) : Ev := ds.map some ++ List.replicate (N.length - ds.length) none
section
variable {P : Program} {w : World} {K : PySem.W.Frag} {mg : Str → Option Value} {base : Heap} {G : Bg}
theorem stt_start {n : Nat} {Z : Zs} {H : Hp} {N : List Str} {ds : List D} {vs : List V} (g : Gd G n Z H) (r : RpL K G Z H ds vs []) (hl : ds.length ≤ N.length) : Stt K G n Z H (startE N ds) (L2.start N vs) (List.replicate N.length []) := by
  have e1 : vs.length = ds.length := r.len
  have ef : (List.replicate N.length ([] : List Addr)).flatten = [] := by simp
  refine ⟨g, ?_, ?_, fun i d h => ?_, by rw [ef]; exact List.nodup_nil, fun a m => ?_, fun a m => ?_, fun a m => ?_⟩
  · unfold startE L2.start
    simp only [List.length_append, List.length_map, List.length_replicate, e1]
  · unfold startE
    simp only [List.length_append, List.length_map, List.length_replicate]
    omega
  · have hi : i < ds.length := by
      unfold startE at h
      by_cases hi : i < ds.length
      · exact hi
      · rw [List.getElem?_append_right (by simpa using hi)] at h
        rw [List.getElem?_replicate] at h
        split at h <;> cases h
    have hd : ds[i]? = some d := by
      unfold startE at h
      rw [List.getElem?_append_left (by simpa using hi), List.getElem?_map] at h
      cases e : ds[i]? with
      | none => rw [e] at h; cases h
      | some a => rw [e] at h; cases h; rfl
    obtain ⟨v, hv, rp⟩ := r.get0 hd
    refine ⟨v, [], ?_, ?_, rp⟩
    · unfold L2.start
      rw [List.getElem?_append_left (by simp; omega), List.getElem?_map, hv]
      rfl
    · rw [List.getElem?_replicate, if_pos (by omega)]
  · rw [ef] at m; cases m
  · rw [ef] at m; cases m
  · rw [ef] at m; cases m
abbrev cxT (P : Program) (w : World) (K : PySem.W.Frag) (mg : Str → Option Value) (base : Heap) (N : List Str) (qual : Str) (st : Stmt) (f : Addr) (cdv : Value) (A : Around) (outer : List Env) (s : Shared) (H : Hp) (E : XK) : Cx := cxOf (L2.CX P w) P w K mg base N qual (defScope st) f cdv A outer s H E
theorem Fun.okT {x qual : Str} {st : Stmt} {f : Addr} {fd : FuncData} {N ps : List Str} {k c : Nat} {sp : Spt} (F : Fun K x qual st f fd) (S : FnScope N ps (defScope st))
    (hbody : ∀ (cdv : Value) (A : Around) (outer : List Env) (s : Shared) (H : Hp) (E : XK), RoomG k (A.deeper (envOfC qual (defScope st) s.heap.objs.size f cdv)) → Takes (cxT P w K mg base N qual st f cdv A outer s H E) (fun cls d _ H' => E cls d H') →
      ∃ t, JB (cxT P w K mg base N qual st f cdv A outer s H E) (fun cls d _ H' => E cls d H') G c (defBody st) t ∧
        ∀ ds Q' E', ds.length = ps.length → sp ds Q' E' → t { nx := fun _ => Q' .non, rt := Q', ex := fun x _ => E' x } (startE N ds)) : FnT P w K mg base G c (k + 1) f fd ps sp := by
  have hpl : ps.length ≤ N.length := by have := congrArg List.length S.pre; rw [List.length_take] at this; omega
  refine okG F S (fun vs H Q E h => h.len) (fun cdv A outer s H vs Q E hr hsp => ?_)
  obtain ⟨t, ht, hq⟩ := hbody cdv A outer s H E hr (takes_of rfl rfl rfl rfl)
  obtain ⟨n, Z, ds, Q', E', p, r, l, sp', q, x⟩ := hsp
  refine ⟨_, ht, n, Z, startE N ds, List.replicate N.length [], _, p.le, stt_start p.gd r (by omega), hq ds Q' E' l sp', ?_, ?_, ?_, ?_, ?_⟩
  all_goals have ef : (List.replicate N.length ([] : List Addr)).flatten = [] := by simp
  · intro Z' env' σ' H' F' e q'
    rw [ef] at e
    exact q .non .non [] Z' H' ⟨⟨e.st.keep, e.st.there, e.st.zz, e.st.zn, (fun _ m => (nomatch m))⟩, e.stt.gd⟩ (Ob.flat ⟨rfl, rfl⟩) q'
  · intro Z' env' σ' H' F' e q'
    exact q'.elim
  · intro Z' env' σ' H' F' e q'
    exact q'.elim
  · intro d v fp Z' H' st g o q'
    rw [ef] at st
    exact q d v fp Z' H' ⟨st, g⟩ o q'
  · intro y cls da Z' env' σ' H' F' e xr q'
    rw [ef] at e
    exact x y cls da Z' H' ⟨⟨e.st.keep, e.st.there, e.st.zz, e.st.zn, (fun _ m => (nomatch m))⟩, e.stt.gd⟩ xr q'
end

section
variable {X : Cx} {W : WX} {G : Bg} {c c1 c2 c3 : Nat} {a b e : Expr} {ta tb tc : RE} {pos : Pos}
theorem js_never {st : Stmt} : JS X W G 0 st (fun _ _ => False) := psImp ps_never fun Dn σ H h => by
  obtain ⟨n, Z, env, F, P, l, s, t, _⟩ := h
  exact t
theorem jb_never {st : List Stmt} : JB X W G 0 st (fun _ _ => False) := pssImp pss_never fun Dn σ H h => by
  obtain ⟨n, Z, env, F, P, l, s, t, _⟩ := h
  exact t

/-! ### operations by values -/
theorem vdone {K : PySem.W.Frag} {n : Nat} {Z : Zs} {H : Hp} {A : List Addr} {Q' : D → Prop} {Q : VK} {d : D} {v : V} (g : Gd G n Z H) (q : ∀ d v fp Z' H', Stp G [] Z H A Z' H' fp → Gd G n Z' H' → Ob K G Z' H' d v fp → Q' d → Q v H') (r : Rp K G Z H d v []) (h : Q' d) : Q v H :=
  q d v [] Z H Stp.refl0 g (Ob.flat r) h
/-- an operation of two ints -/
def gII (f : Int → Int → (D → Prop) → Prop) : D → D → (D → Prop) → Prop := fun x y Q => match x, y with
  | .int i, .int j => f i j Q
  | _, _ => False
theorem v_rI {C : Int → Int → Prop} {g : Int → Int → V} {gd : Int → Int → D} (h : ∀ i j (K : PySem.W.Frag) Z H, Rp K G Z H (gd i j) (g i j) []) : VOp2 X G (rI C g) (gII fun i j Q => C i j ∧ Q (gd i j)) := by
  intro n Z H dx x fx dy y fy Q' Q g0 ox oy ap t q
  unfold gII at t
  split at t
  · rename_i i j
    have e1 : x = .int i := ox.rp.1
    have e2 : y = .int j := oy.rp.1
    exact ⟨i, j, e1, e2, t.1, vdone g0 q (h i j _ _ _) t.2⟩
  · exact t.elim
theorem v_rI0 {g : Int → Int → V} {gd : Int → Int → D} (h : ∀ i j (K : PySem.W.Frag) Z H, Rp K G Z H (gd i j) (g i j) []) : VOp2 X G (rI0 g) (gII fun i j Q => Q (gd i j)) := by
  intro n Z H dx x fx dy y fy Q' Q g0 ox oy ap t q
  unfold gII at t
  split at t
  · rename_i i j
    have e1 : x = .int i := ox.rp.1
    have e2 : y = .int j := oy.rp.1
    exact ⟨i, j, e1, e2, vdone g0 q (h i j _ _ _) t⟩
  · exact t.elim
theorem je_sub (ha : JE X W G c1 a ta) (hb : JE X W G c2 b tb) : JE X W G (c1 + c2) (.BinOp a .Sub b pos) (r2 ta tb (gII fun i j Q => Q (.int (i - j)))) := je_op op_sub (v_rI0 fun _ _ _ _ _ => ⟨rfl, rfl⟩) ha hb
theorem je_mod (ha : JE X W G c1 a ta) (hb : JE X W G c2 b tb) : JE X W G (c1 + c2) (.BinOp a .Mod b pos) (r2 ta tb (gII fun i j Q => 0 < j ∧ Q (.int (i % j)))) := je_op op_mod (v_rI fun _ _ _ _ _ => ⟨rfl, rfl⟩) ha hb
theorem je_div (ha : JE X W G c1 a ta) (hb : JE X W G c2 b tb) : JE X W G (c1 + c2) (.BinOp a .FloorDiv b pos) (r2 ta tb (gII fun i j Q => CDivW i j ∧ Q (.int (i / j)))) := je_op op_fdivW (v_rI fun _ _ _ _ _ => ⟨rfl, rfl⟩) ha hb
theorem je_pow (ha : JE X W G c1 a ta) (hb : JE X W G c2 b tb) : JE X W G (c1 + c2) (.BinOp a .Pow b pos) (r2 ta tb (gII fun i j Q => CPow i j ∧ Q (.int (i ^ j.toNat)))) := je_op op_pow (v_rI fun _ _ _ _ _ => ⟨rfl, rfl⟩) ha hb
theorem je_lt (ha : JE X W G c1 a ta) (hb : JE X W G c2 b tb) : JE X W G (c1 + c2) (.Compare a [.Lt] [b] pos) (r2 ta tb (gII fun i j Q => Q (.bl (decide (i < j))))) := je_cmp op_lt (v_rI0 fun _ _ _ _ _ => ⟨rfl, rfl⟩) ha hb (nomark _)
theorem je_le (ha : JE X W G c1 a ta) (hb : JE X W G c2 b tb) : JE X W G (c1 + c2) (.Compare a [.LtE] [b] pos) (r2 ta tb (gII fun i j Q => Q (.bl (decide (i ≤ j))))) := je_cmp op_le (v_rI0 fun _ _ _ _ _ => ⟨rfl, rfl⟩) ha hb (nomark _)
theorem je_gt (ha : JE X W G c1 a ta) (hb : JE X W G c2 b tb) : JE X W G (c1 + c2) (.Compare a [.Gt] [b] pos) (r2 ta tb (gII fun i j Q => Q (.bl (decide (j < i))))) := je_cmp op_gt (v_rI0 fun _ _ _ _ _ => ⟨rfl, rfl⟩) ha hb (nomark _)
theorem je_ge (ha : JE X W G c1 a ta) (hb : JE X W G c2 b tb) : JE X W G (c1 + c2) (.Compare a [.GtE] [b] pos) (r2 ta tb (gII fun i j Q => Q (.bl (decide (j ≤ i))))) := je_cmp op_ge (v_rI0 fun _ _ _ _ _ => ⟨rfl, rfl⟩) ha hb (nomark _)
theorem je_neg (ha : JE X W G c a ta) : JE X W G c (.UnaryOp .USub a pos) (r1 ta fun x Q => match x with
  | .int i => Q (.int (-i))
  | _ => False) := je_un un_neg (by
    intro n Z H dx x fx Q' Q g0 ox t q
    split at t
    · rename_i i
      exact ⟨i, ox.rp.1, vdone (d := .int (-i)) g0 q ⟨rfl, rfl⟩ t⟩
    · exact t.elim) ha

/-! a + b: ints, texts, lists, tuples -/
theorem ObL.app {K : PySem.W.Frag} {Z : Zs} {H : Hp} {ds ds' : List D} {vs vs' : List V} {f f' : List Addr} (o : ObL K G Z H ds vs f) (o' : ObL K G Z H ds' vs' f') (ap : ∀ a ∈ f, ∀ b ∈ f', a ≠ b) : ObL K G Z H (ds ++ ds') (vs ++ vs') (f ++ f') :=
  ⟨o.rp.app o'.rp, List.nodup_append.mpr ⟨o.nd, o'.nd, ap⟩, fun c m => (List.mem_append.mp m).elim (o.nz c) (o'.nz c), fun c m => (List.mem_append.mp m).elim (o.nb c) (o'.nb c)⟩
/-- what a list is made of, handed over: the list's own place is given up -/
theorem Ob.lstOpen {K : PySem.W.Frag} {Z : Zs} {H : Hp} {ow : Bool} {ds : List D} {v : V} {fp : List Addr} (o : Ob K G Z H (.lst ow ds) v fp) : ∃ a vs f, v = .ref a ∧ H a = some (.lst vs) ∧ ObL K G Z H ds vs f ∧ (∀ b ∈ f, b ∈ fp) ∧ (ow = true → H a = some (.lst vs) ∧ fp = a :: f) := by
  cases ow with
  | true =>
    obtain ⟨a, vs, f, e, h, r, ef⟩ := o.rp
    subst ef
    refine ⟨a, vs, f, e, h, ⟨r, (List.nodup_cons.mp o.nd).2, fun b m => o.nz b (List.mem_cons_of_mem _ m), fun b m => o.nb b (List.mem_cons_of_mem _ m)⟩, fun b m => List.mem_cons_of_mem _ m, fun _ => ⟨h, rfl⟩⟩
  | false =>
    obtain ⟨a, vs, e, h, z, r, ef⟩ := o.rp
    subst ef
    exact ⟨a, vs, [], e, h, ⟨r, List.nodup_nil, (fun _ m => (nomatch m)), (fun _ m => (nomatch m))⟩, (fun _ m => (nomatch m)), (fun h => (nomatch h))⟩
end
end TT

set_option Elab.async false
set_option linter.all false
set_option maxRecDepth 100000
namespace TT
open PySem PySem.Spec PyProof.Rows L2
section
variable {X : Cx} {W : WX} {G : Bg} {c c1 c2 c3 : Nat} {a b e : Expr} {es : List Expr} {ta tb tc : RE} {pos : Pos}
/-! ### a + b -/
def gAdd : D → D → (D → Prop) → Prop := fun x y Q => match x, y with
  | .int i, .int j => Q (.int (i + j))
  | .str a, .str b => a.length + b.length ≤ sizeLine ∧ Q (.str (a ++ b))
  | .lst _ xs, .lst _ ys => xs.length + ys.length ≤ sizeLine ∧ Q (.lst true (xs ++ ys))
  | _, _ => False
def rAddD : R2 := fun x y H Q => rI0 (fun i j => .int (i + j)) x y H Q ∨ (∃ i j, x = .str i ∧ y = .str j ∧ i.length + j.length ≤ sizeLine ∧ Q (.str (i ++ j)) H) ∨ rCat x y H Q
theorem op_addD : OpR X (binaryOp .Add) rAddD := op_add.or (op_add_str.or op_cat)
theorem v_add : VOp2 X G rAddD gAdd := by
  intro n Z H dx x fx dy y fy Q' Q g0 ox oy ap t q
  unfold gAdd at t
  split at t
  · rename_i i j
    exact .inl ⟨i, j, ox.rp.1, oy.rp.1, vdone (d := .int (i + j)) g0 q ⟨rfl, rfl⟩ t⟩
  · rename_i i j
    exact .inr (.inl ⟨i, j, ox.rp.1, oy.rp.1, t.1, vdone (d := .str (i ++ j)) g0 q ⟨rfl, rfl⟩ t.2⟩)
  · rename_i o1 xs o2 ys
    obtain ⟨p1, vs, f, e1, h1, l1, s1, _⟩ := ox.lstOpen
    obtain ⟨p2, us, f', e2, h2, l2, s2, _⟩ := oy.lstOpen
    refine .inr (.inr ⟨p1, p2, vs, us, e1, e2, h1, h2, by rw [l1.rp.len, l2.rp.len]; exact t.1, fun p hp => ?_⟩)
    have l := l1.app l2 fun a ha b hb => ap a (s1 a ha) b (s2 b hb)
    refine q _ _ (p :: (f ++ f')) Z _ (Stp.new hp fun a m => ?_) (g0.new hp) (ob_lst g0 l hp) t.2
    rcases List.mem_cons.mp m with m | m
    · exact .inr m
    · rcases List.mem_append.mp m with m | m
      · exact .inl (List.mem_append_left _ (s1 a m))
      · exact .inl (List.mem_append_right _ (s2 a m))
  · exact t.elim
theorem je_add (ha : JE X W G c1 a ta) (hb : JE X W G c2 b tb) : JE X W G (c1 + c2) (.BinOp a .Add b pos) (r2 ta tb gAdd) := je_op op_addD v_add ha hb
/-! ### a * b -/
def gMul : D → D → (D → Prop) → Prop := fun x y Q => match x, y with
  | .int i, .int j => (CMul i j ∨ CMulW i j) ∧ Q (.int (i * j))
  | .lst _ xs, .int k => (-(2 ^ 63) ≤ k ∧ k < 2 ^ 63) ∧ xs.length * k.toNat ≤ sizeLine ∧ Q (.lst true (List.replicate k.toNat (frzL xs)).flatten)
  | _, _ => False
def rMulD : R2 := fun x y H Q => rI CMul (fun i j => .int (i * j)) x y H Q ∨ rI CMulW (fun i j => .int (i * j)) x y H Q ∨ rRep x y H Q
theorem op_mulD : OpR X (binaryOp .Mult) rMulD := op_mul.or (op_mulW.or op_rep)
theorem rp_rep {K : PySem.W.Frag} {Z : Zs} {H : Hp} {ds : List D} {vs : List V} (r : RpL K G Z H ds vs []) : ∀ n, RpL K G Z H (List.replicate n ds).flatten (List.replicate n vs).flatten []
  | 0 => ⟨rfl, rfl⟩
  | n + 1 => by
    rw [List.replicate_succ, List.replicate_succ, List.flatten_cons, List.flatten_cons]
    exact r.app (rp_rep r n)
theorem v_mul : VOp2 X G rMulD gMul := by
  intro n Z H dx x fx dy y fy Q' Q g0 ox oy ap t q
  unfold gMul at t
  split at t
  · rename_i i j
    rcases t.1 with t1 | t1
    · exact .inl ⟨i, j, ox.rp.1, oy.rp.1, t1, vdone (d := .int (i * j)) g0 q ⟨rfl, rfl⟩ t.2⟩
    · exact .inr (.inl ⟨i, j, ox.rp.1, oy.rp.1, t1, vdone (d := .int (i * j)) g0 q ⟨rfl, rfl⟩ t.2⟩)
  · rename_i o1 xs k
    obtain ⟨p1, vs, f, e1, h1, l1, s1, _⟩ := ox.lstOpen
    obtain ⟨g2, r2, st2⟩ := l1.share g0
    refine .inr (.inr ⟨p1, k, vs, e1, oy.rp.1, h1, t.1.1, t.1.2, by rw [l1.rp.len]; exact t.2.1, fun p hp => ?_⟩)
    have l : ObL X.K G (fun a => Z a ∨ a ∈ f) H _ _ [] := ⟨rp_rep r2 k.toNat, List.nodup_nil, (fun _ m => (nomatch m)), (fun _ m => (nomatch m))⟩
    refine q _ _ [p] _ _ ?_ (g2.new hp) (ob_lst g2 l hp) t.2.2
    have st3 : Stp G [] (fun a => Z a ∨ a ∈ f) H [] _ (upd H p (.lst (List.replicate k.toNat vs).flatten)) [p] := Stp.new hp fun a m => .inr (by simpa using m)
    exact (st2.wide (fun a m => List.mem_append_left _ (s1 a m))).trans st3 (fun _ m => (nomatch m))
  · exact t.elim
theorem je_mul (ha : JE X W G c1 a ta) (hb : JE X W G c2 b tb) : JE X W G (c1 + c2) (.BinOp a .Mult b pos) (r2 ta tb gMul) := je_op op_mulD v_mul ha hb
/-! ### a == b -/
mutual
def py : D → PyData
  | .non => .none
  | .bl b => .bool b
  | .int i => .int i
  | .str x => .str x
  | .tup ds => .tuple (pyL ds)
  | .lst _ ds => .list (pyL ds)
  | .dct _ _ _ => .dict []
  | .dcT _ _ _ => .dict []
  | .bag => .dict []
  | .scr _ => .dict []
  | .exc _ _ _ => .dict []
  | .err _ _ => .dict []
def pyL : List D → List PyData
  | [] => []
  | d :: ds => py d :: pyL ds
end
mutual
/-- plain data of a small depth -/
def sm : Nat → D → Bool
  | _, .non => true
  | _, .bl _ => true
  | _, .int _ => true
  | _, .str _ => true
  | 0, .tup _ => false
  | 0, .lst _ _ => false
  | k + 1, .tup ds => smL k ds
  | k + 1, .lst _ ds => smL k ds
  | _, .dct _ _ _ => false
  | _, .dcT _ _ _ => false
  | _, .bag => false
  | _, .scr _ => false
  | _, .exc _ _ _ => false
  | _, .err _ _ => false
def smL : Nat → List D → Bool
  | _, [] => true
  | k, d :: ds => sm k d && smL k ds
end
theorem pyL_map : ∀ ds, pyL ds = ds.map py
  | [] => rfl
  | d :: ds => congrArg _ (pyL_map ds)
theorem smL_all : ∀ k ds, smL k ds = ds.all (sm k)
  | _, [] => by simp [smL]
  | k, d :: ds => by simp only [smL, List.all_cons, smL_all k ds]
mutual
theorem sm_plain : ∀ (k : Nat) (d : D), sm k d = true → (py d).plain = true ∧ (py d).depth ≤ k
  | k, .non, h => ⟨rfl, Nat.zero_le _⟩
  | k, .bl _, h => ⟨rfl, Nat.zero_le _⟩
  | k, .int _, h => ⟨rfl, Nat.zero_le _⟩
  | k, .str _, h => ⟨rfl, Nat.zero_le _⟩
  | 0, .tup _, h => by simp [sm] at h
  | 0, .lst _ _, h => by simp [sm] at h
  | k + 1, .tup ds, h => by
    have h : smL k ds = true := by simpa [sm] using h
    obtain ⟨a, b⟩ := smL_plain k ds h
    exact ⟨by simpa [py, PyData.plain] using a, by simp only [py, PyData.depth]; omega⟩
  | k + 1, .lst _ ds, h => by
    have h : smL k ds = true := by simpa [sm] using h
    obtain ⟨a, b⟩ := smL_plain k ds h
    exact ⟨by simpa [py, PyData.plain] using a, by simp only [py, PyData.depth]; omega⟩
  | k, .dct _ _ _, h => by simp [sm] at h
  | k, .dcT _ _ _, h => by simp [sm] at h
  | k, .bag, h => by simp [sm] at h
  | k, .scr _, h => by simp [sm] at h
  | k, .exc _ _ _, h => by simp [sm] at h
  | k, .err _ _, h => by simp [sm] at h
theorem smL_plain : ∀ (k : Nat) (ds : List D), smL k ds = true → PyData.plainAll (pyL ds) = true ∧ PyData.depthAll (pyL ds) ≤ k
  | k, [], h => ⟨rfl, Nat.zero_le _⟩
  | k, d :: ds, h => by
    have h : (sm k d && smL k ds) = true := by simpa [smL] using h
    rw [Bool.and_eq_true] at h
    obtain ⟨a1, a2⟩ := sm_plain k d h.1
    obtain ⟨b1, b2⟩ := smL_plain k ds h.2
    refine ⟨by simp [pyL, PyData.plainAll, a1, b1], ?_⟩
    show max (py d).depth (PyData.depthAll (pyL ds)) ≤ k
    omega
end
mutual
theorem rp_dp {K : PySem.W.Frag} {Z : Zs} {H : Hp} : ∀ (k : Nat) (d : D) (v : V) (fp : List Addr), sm k d = true → Rp K G Z H d v fp → Dp K H v (py d)
  | k, .non, v, fp, h, r => by rw [r.1]; exact .non
  | k, .bl _, v, fp, h, r => by rw [r.1]; exact .bl _
  | k, .int _, v, fp, h, r => by rw [r.1]; exact .int _
  | k, .str _, v, fp, h, r => by rw [r.1]; exact .str _
  | 0, .tup _, v, fp, h, r => by simp [sm] at h
  | 0, .lst _ _, v, fp, h, r => by simp [sm] at h
  | k + 1, .tup ds, v, fp, h, r => by
    have h : smL k ds = true := by simpa [sm] using h
    obtain ⟨a, vs, e, sq, rr⟩ := r
    rw [e]
    exact .tup (.of sq) (rpL_dp k ds vs fp h rr)
  | k + 1, .lst true ds, v, fp, h, r => by
    have h : smL k ds = true := by simpa [sm] using h
    obtain ⟨a, vs, f, e, sq, rr, ef⟩ := r
    rw [e]
    exact .lst (.inl (.inl sq)) (rpL_dp k ds vs f h rr)
  | k + 1, .lst false ds, v, fp, h, r => by
    have h : smL k ds = true := by simpa [sm] using h
    obtain ⟨a, vs, e, sq, z, rr, ef⟩ := r
    rw [e]
    exact .lst (.inl (.inl sq)) (rpL_dp k ds vs [] h rr)
  | k, .dct _ _ _, v, fp, h, r => by simp [sm] at h
  | k, .dcT _ _ _, v, fp, h, r => by simp [sm] at h
  | k, .bag, v, fp, h, r => by simp [sm] at h
  | k, .scr _, v, fp, h, r => by simp [sm] at h
  | k, .exc _ _ _, v, fp, h, r => by simp [sm] at h
  | k, .err _ _, v, fp, h, r => by simp [sm] at h
theorem rpL_dp {K : PySem.W.Frag} {Z : Zs} {H : Hp} : ∀ (k : Nat) (ds : List D) (vs : List V) (fp : List Addr), smL k ds = true → RpL K G Z H ds vs fp → DpAll K H vs (pyL ds)
  | k, [], vs, fp, h, r => by rw [r.1]; exact .nil
  | k, d :: ds, vs, fp, h, r => by
    have h : (sm k d && smL k ds) = true := by simpa [smL] using h
    rw [Bool.and_eq_true] at h
    obtain ⟨v, us, f1, f2, e, r1, rs, ef⟩ := r
    rw [e]
    exact .cons (rp_dp k d v f1 h.1 r1) (rpL_dp k ds us f2 h.2 rs)
end
def deq (x y : D) : Bool := PyData.eqv (py x) (py y)
def gEq (x y : D) (Q : D → Prop) : Prop := sm 64 x = true ∧ sm 64 y = true ∧ Q (.bl (deq x y))
def gNe (x y : D) (Q : D → Prop) : Prop := sm 64 x = true ∧ sm 64 y = true ∧ Q (.bl (!deq x y))
def rEqP (K : PySem.W.Frag) : R2 := fun x y H Q => ∃ d e, Dp K H x d ∧ Dp K H y e ∧ d.plain = true ∧ e.plain = true ∧ d.depth ≤ 64 ∧ Q (.bl (PyData.eqv d e)) H
def rNeP (K : PySem.W.Frag) : R2 := fun x y H Q => ∃ d e, Dp K H x d ∧ Dp K H y e ∧ d.plain = true ∧ e.plain = true ∧ d.depth ≤ 64 ∧ Q (.bl (!PyData.eqv d e)) H
theorem op_eqP (hu : X.A.units + 64 < cLine) : OpR X (compareOp .Eq) (rEqP X.K) := by
  intro pins s σ H x y v u Q I rx ry h
  obtain ⟨d, e, hd, he, sd, se, dl, q⟩ := h
  obtain ⟨as, r1⟩ := Dp.reads I d x v hd rx
  obtain ⟨bs, r2⟩ := Dp.reads I e y u he ry
  exact SeqAt.eq_plain r1 r2 sd se (by omega) ⟨.bl _, H, I, rfl, q⟩
theorem op_neP (hu : X.A.units + 64 < cLine) : OpR X (compareOp .NotEq) (rNeP X.K) := by
  intro pins s σ H x y v u Q I rx ry h
  obtain ⟨d, e, hd, he, sd, se, dl, q⟩ := h
  obtain ⟨as, r1⟩ := Dp.reads I d x v hd rx
  obtain ⟨bs, r2⟩ := Dp.reads I e y u he ry
  exact SeqAt.ne_plain r1 r2 sd se (by omega) ⟨.bl _, H, I, rfl, q⟩
theorem v_eq : VOp2 X G (rEqP X.K) gEq := by
  intro n Z H dx x fx dy y fy Q' Q g0 ox oy ap t q
  obtain ⟨s1, s2, t⟩ := t
  obtain ⟨a1, a2⟩ := sm_plain _ _ s1
  obtain ⟨b1, b2⟩ := sm_plain _ _ s2
  exact ⟨_, _, rp_dp _ _ _ _ s1 ox.rp, rp_dp _ _ _ _ s2 oy.rp, a1, b1, a2, vdone (d := .bl (deq dx dy)) g0 q ⟨rfl, rfl⟩ t⟩
theorem v_ne : VOp2 X G (rNeP X.K) gNe := by
  intro n Z H dx x fx dy y fy Q' Q g0 ox oy ap t q
  obtain ⟨s1, s2, t⟩ := t
  obtain ⟨a1, a2⟩ := sm_plain _ _ s1
  obtain ⟨b1, b2⟩ := sm_plain _ _ s2
  exact ⟨_, _, rp_dp _ _ _ _ s1 ox.rp, rp_dp _ _ _ _ s2 oy.rp, a1, b1, a2, vdone (d := .bl (!deq dx dy)) g0 q ⟨rfl, rfl⟩ t⟩
/-! ### is None -/
def isNon : D → Bool
  | .non => true
  | _ => false
theorem isNon_v {K : PySem.W.Frag} {Z : Zs} {H : Hp} : ∀ {d : D} {v : V} {fp : List Addr}, Rp K G Z H d v fp → decide (v = V.non) = isNon d
  | .non, v, fp, r => by rw [r.1]; rfl
  | .bl _, v, fp, r => by rw [r.1]; rfl
  | .int _, v, fp, r => by rw [r.1]; rfl
  | .str _, v, fp, r => by rw [r.1]; rfl
  | .tup _, v, fp, ⟨_, _, e, _⟩ => by rw [e]; rfl
  | .lst true _, v, fp, ⟨_, _, _, e, _⟩ => by rw [e]; rfl
  | .lst false _, v, fp, ⟨_, _, e, _⟩ => by rw [e]; rfl
  | .dct true _ _, v, fp, ⟨_, _, _, e, _⟩ => by rw [e]; rfl
  | .dcT true _ _, v, fp, ⟨_, _, _, e, _⟩ => by rw [e]; rfl
  | .dct false _ _, v, fp, ⟨_, _, e, _⟩ => by rw [e]; rfl
  | .dcT false _ _, v, fp, ⟨_, _, e, _⟩ => by rw [e]; rfl
  | .bag, v, fp, ⟨⟨_, _, _, _, e⟩, _⟩ => by rw [e]; rfl
  | .scr _, v, fp, ⟨⟨_, e, _⟩, _⟩ => by rw [e]; rfl
  | .exc _ _ _, v, fp, ⟨e, _⟩ => by rw [e]; rfl
  | .err _ _, v, fp, ⟨_, _, _, _, e, _⟩ => by rw [e]; rfl
def gIsN (x y : D) (Q : D → Prop) : Prop := match y with
  | .non => Q (.bl (isNon x))
  | _ => False
def gNotN (x y : D) (Q : D → Prop) : Prop := match y with
  | .non => Q (.bl (!isNon x))
  | _ => False
theorem v_isN : VOp2 X G (fun x y H Q => y = .non ∧ Q (.bl (decide (x = .non))) H) gIsN := by
  intro n Z H dx x fx dy y fy Q' Q g0 ox oy ap t q
  unfold gIsN at t
  split at t
  · exact ⟨oy.rp.1, by rw [isNon_v ox.rp]; exact vdone (d := .bl (isNon dx)) g0 q ⟨rfl, rfl⟩ t⟩
  · exact t.elim
theorem v_notN : VOp2 X G (fun x y H Q => y = .non ∧ Q (.bl (!decide (x = .non))) H) gNotN := by
  intro n Z H dx x fx dy y fy Q' Q g0 ox oy ap t q
  unfold gNotN at t
  split at t
  · exact ⟨oy.rp.1, by rw [isNon_v ox.rp]; exact vdone (d := .bl (!isNon dx)) g0 q ⟨rfl, rfl⟩ t⟩
  · exact t.elim
end
end TT

set_option Elab.async false
set_option linter.all false
set_option maxRecDepth 100000
namespace TT
open PySem PySem.Spec PyProof.Rows L2
section
variable {K : PySem.W.Frag} {G : Bg} {Z : Zs} {H : Hp}
theorem RpL.getS : ∀ {ds : List D} {vs : List V} {fp : List Addr} {i : Nat} {d : D}, RpL K G Z H ds vs fp → ds[i]? = some d → ∃ v f, vs[i]? = some v ∧ Rp K G Z H d v f ∧ f.Sublist fp
  | [], vs, fp, i, d, h, e => by simp at e
  | d0 :: ds, vs, fp, 0, d, ⟨v, vs', f1, f2, e, r, rs, ef⟩, h => by
    have : d0 = d := Option.some.inj h
    subst this; subst e; subst ef
    exact ⟨v, f1, rfl, r, List.sublist_append_left _ _⟩
  | d0 :: ds, vs, fp, i + 1, d, ⟨v, vs', f1, f2, e, r, rs, ef⟩, h => by
    subst e; subst ef
    obtain ⟨v', f, h1, h2, h3⟩ := RpL.getS (i := i) (d := d) rs h
    exact ⟨v', f, h1, h2, h3.trans (List.sublist_append_right _ _)⟩
theorem ObL.get {ds : List D} {vs : List V} {fp : List Addr} {i : Nat} {d : D} (o : ObL K G Z H ds vs fp) (e : ds[i]? = some d) : ∃ v f, vs[i]? = some v ∧ Ob K G Z H d v f ∧ ∀ a ∈ f, a ∈ fp := by
  obtain ⟨v, f, h1, h2, h3⟩ := o.rp.getS e
  exact ⟨v, f, h1, ⟨h2, o.nd.sublist h3, fun a m => o.nz a (h3.subset m), fun a m => o.nb a (h3.subset m)⟩, fun a m => h3.subset m⟩
theorem atI_at {α : Type} {xs : List α} {i : Int} {v : α} (h : atI xs i = some v) : ∃ j, ixN xs.length i = some j ∧ xs[j]? = some v := by
  unfold atI at h
  cases e : ixN xs.length i with
  | none => rw [e] at h; cases h
  | some j => rw [e] at h; exact ⟨j, rfl, h⟩
theorem at_atI {α : Type} {xs : List α} {i : Int} {v : α} {j : Nat} (h1 : ixN xs.length i = some j) (h2 : xs[j]? = some v) : atI xs i = some v := by
  unfold atI
  rw [h1]; exact h2
theorem Ob.tupOpen {ds : List D} {v : V} {fp : List Addr} (o : Ob K G Z H (.tup ds) v fp) : ∃ a vs, v = .ref a ∧ SqT K H a vs ∧ ObL K G Z H ds vs fp := by
  obtain ⟨a, vs, e, s, r⟩ := o.rp
  exact ⟨a, vs, e, .of s, ⟨r, o.nd, o.nz, o.nb⟩⟩
end
section
variable {X : Cx} {W : WX} {G : Bg} {c c1 c2 c3 : Nat} {a b e : Expr} {es : List Expr} {ta tb tc : RE} {pos : Pos}
/-! ### a[i] -/
def gIx : D → D → (D → Prop) → Prop := fun x y Q => match x, y with
  | .lst _ ds, .int i => match atI ds i with
    | some d => Q d
    | none => False
  | .tup ds, .int i => match atI ds i with
    | some d => Q d
    | none => False
  | .str z, .int i => z.length ≤ sizeLine ∧ match atI z.cps.toList i with
    | some ch => Q (.str ⟨#[ch]⟩)
    | none => False
  | _, _ => False
theorem v_ix : VOp2 X G (rIx X.K) gIx := by
  intro n Z H dx x fx dy y fy Q' Q g0 ox oy ap t q
  unfold gIx at t
  split at t
  · rename_i o ds i
    split at t
    · rename_i d hd
      obtain ⟨j, h1, h2⟩ := atI_at hd
      obtain ⟨p, vs, f, e1, hp, l1, s1, _⟩ := ox.lstOpen
      obtain ⟨v, f', hv, od, sub⟩ := l1.get h2
      refine .inl ⟨p, vs, i, v, e1, oy.rp.1, SqL.of hp, at_atI (by rw [l1.rp.len]; exact h1) hv, q d v f' Z H ⟨fun _ _ h _ _ => h, fun _ u h => ⟨u, h⟩, fun _ z => z, fun _ z => .inl z, fun a m => .inl (List.mem_append_left _ (s1 a (sub a m)))⟩ g0 od t⟩
    · exact t.elim
  · rename_i ds i
    split at t
    · rename_i d hd
      obtain ⟨j, h1, h2⟩ := atI_at hd
      obtain ⟨p, vs, e1, hp, l1⟩ := ox.tupOpen
      obtain ⟨v, f', hv, od, sub⟩ := l1.get h2
      refine .inr (.inl ⟨p, vs, i, v, e1, oy.rp.1, hp, at_atI (by rw [l1.rp.len]; exact h1) hv, q d v f' Z H ⟨fun _ _ h _ _ => h, fun _ u h => ⟨u, h⟩, fun _ z => z, fun _ z => .inl z, fun a m => .inl (List.mem_append_left _ (sub a m))⟩ g0 od t⟩)
    · exact t.elim
  · rename_i z i
    obtain ⟨hz, t⟩ := t
    split at t
    · rename_i ch hd
      exact .inr (.inr ⟨z, i, ch, ox.rp.1, oy.rp.1, hz, hd, vdone (d := .str ⟨#[ch]⟩) g0 q ⟨rfl, rfl⟩ t⟩)
    · exact t.elim
  · exact t.elim
theorem je_sub1 (ha : JE X W G c1 a ta) (hb : JE X W G c2 b tb) (hs : PlainIx b := by exact fun _ _ => rfl) : JE X W G (c1 + c2) (.Subscript a b pos) (r2 ta tb gIx) := je_ix ix_seq hs v_ix ha hb

/-! ### calls of built-ins -/
theorem CallR.or {f : Value} {r r' : List V → Hp → VK → Prop} (h : CallR X f r) (h' : CallR X f r') : CallR X f (fun x H Q => r x H Q ∨ r' x H Q) := by
  intro pins s σ H xs us Q I rv q
  rcases q with q | q
  · exact h pins s σ H xs us Q I rv q
  · exact h' pins s σ H xs us Q I rv q
def gLen : List D → (D → Prop) → Prop := fun ds Q => match ds with
  | [.lst _ xs] => Q (.int xs.length)
  | [.tup xs] => Q (.int xs.length)
  | [.str z] => z.length ≤ sizeLine ∧ Q (.int z.length)
  | [.scr ns] => Q (.int ns.length)
  | _ => False
theorem obL1 {K : PySem.W.Frag} {Z : Zs} {H : Hp} {d : D} {vs : List V} {fp : List Addr} (o : ObL K G Z H [d] vs fp) : ∃ v, vs = [v] ∧ Ob K G Z H d v fp := by
  obtain ⟨v, us, f1, f2, e, ef, o1, o2, ap⟩ := o.split
  have e1 : us = [] := o2.rp.1
  have e2 : f2 = [] := o2.rp.2
  subst e1 e2
  rw [List.append_nil] at ef
  subst ef
  exact ⟨v, e, o1⟩
theorem obL2 {K : PySem.W.Frag} {Z : Zs} {H : Hp} {d d' : D} {vs : List V} {fp : List Addr} (o : ObL K G Z H [d, d'] vs fp) : ∃ v v' f f', vs = [v, v'] ∧ fp = f ++ f' ∧ Ob K G Z H d v f ∧ Ob K G Z H d' v' f' ∧ ∀ a ∈ f, ∀ b ∈ f', a ≠ b := by
  obtain ⟨v, us, f1, f2, e, ef, o1, o2, ap⟩ := o.split
  obtain ⟨v', e', o'⟩ := obL1 o2
  exact ⟨v, v', f1, f2, by rw [e, e'], ef, o1, o', ap⟩
theorem v_len : VOpL X G (fun xs H Q => ∃ x n, xs = [x] ∧ LenV X.K x H n ∧ Q (.int n) H) gLen := by
  intro n Z H ds xs fx Q' Q g0 o t q
  unfold gLen at t
  split at t
  · rename_i ow ys
    obtain ⟨v, e, o1⟩ := obL1 o
    obtain ⟨p, vs, f, e1, hp, l1, s1, _⟩ := o1.lstOpen
    refine ⟨v, ys.length, e, ?_, vdone (d := .int ys.length) g0 q ⟨rfl, rfl⟩ t⟩
    rw [e1]
    exact .inl ⟨vs, SqL.of hp, l1.rp.len.symm⟩
  · rename_i ys
    obtain ⟨v, e, o1⟩ := obL1 o
    obtain ⟨p, vs, e1, hp, l1⟩ := o1.tupOpen
    refine ⟨v, ys.length, e, ?_, vdone (d := .int ys.length) g0 q ⟨rfl, rfl⟩ t⟩
    rw [e1]
    exact .inr ⟨vs, hp, l1.rp.len.symm⟩
  · rename_i z
    obtain ⟨v, e, o1⟩ := obL1 o
    have e1 : v = .str z := o1.rp.1
    refine ⟨v, z.length, e, ?_, vdone (d := .int z.length) g0 q ⟨rfl, rfl⟩ t.2⟩
    rw [e1]
    exact ⟨t.1, rfl⟩
  · rename_i ns
    obtain ⟨v, e, o1⟩ := obL1 o
    obtain ⟨⟨p, e1, hp⟩, _⟩ := o1.rp
    refine ⟨v, ns.length, e, ?_, vdone (d := .int ns.length) g0 q ⟨rfl, rfl⟩ t⟩
    rw [e1]
    exact .inl ⟨_, hp.sql, by rw [List.length_map]⟩
  · exact t.elim
def gII1 (f : Int → Int → D) : List D → (D → Prop) → Prop := fun ds Q => match ds with
  | [.int i, .int j] => Q (f i j)
  | _ => False
theorem v_ii {fV : Int → Int → V} {f : Int → Int → D} (h : ∀ i j (K : PySem.W.Frag) Z H, Rp K G Z H (f i j) (fV i j) []) : VOpL X G (fun xs H Q => ∃ i j, xs = [.int i, .int j] ∧ Q (fV i j) H) (gII1 f) := by
  intro n Z H ds xs fx Q' Q g0 o t q
  unfold gII1 at t
  split at t
  · rename_i i j
    exact ⟨i, j, rpL2 o.rp, vdone (d := f i j) g0 q (h i j _ _ _) t⟩
  · exact t.elim
theorem min_if (i j : Int) : (if j < i then j else i) = min i j := by
  by_cases h : j < i
  · rw [if_pos h]; omega
  · rw [if_neg h]; omega
theorem max_if (i j : Int) : (if j > i then j else i) = max i j := by
  by_cases h : j > i
  · rw [if_pos h]; omega
  · rw [if_neg h]; omega
theorem v_min : VOpL X G (fun xs H Q => ∃ i j, xs = [.int i, .int j] ∧ Q (.int (if j < i then j else i)) H) (gII1 fun i j => .int (min i j)) := v_ii fun i j K Z H => by rw [← min_if]; exact ⟨rfl, rfl⟩
theorem v_max : VOpL X G (fun xs H Q => ∃ i j, xs = [.int i, .int j] ∧ Q (.int (if j > i then j else i)) H) (gII1 fun i j => .int (max i j)) := v_ii fun i j K Z H => by rw [← max_if]; exact ⟨rfl, rfl⟩
def gAbs : List D → (D → Prop) → Prop := fun ds Q => match ds with
  | [.int i] => Q (.int (if i < 0 then -i else i))
  | _ => False
theorem v_abs : VOpL X G (fun xs H Q => ∃ i, xs = [.int i] ∧ Q (.int (if i < 0 then -i else i)) H) gAbs := by
  intro n Z H ds xs fx Q' Q g0 o t q
  unfold gAbs at t
  split at t
  · rename_i i
    exact ⟨i, rpL1 o.rp, vdone (d := .int (if i < 0 then -i else i)) g0 q ⟨rfl, rfl⟩ t⟩
  · exact t.elim
def gInt1 : List D → (D → Prop) → Prop := fun ds Q => match ds with
  | [.int i] => Q (.int i)
  | [.bl k] => Q (.int (if k then 1 else 0))
  | _ => False
theorem v_int1 : VOpL X G (fun xs H Q => (∃ i, xs = [.int i] ∧ Q (.int i) H) ∨ ∃ k, xs = [.bl k] ∧ Q (.int (if k then 1 else 0)) H) gInt1 := by
  intro n Z H ds xs fx Q' Q g0 o t q
  unfold gInt1 at t
  split at t
  · rename_i i
    exact .inl ⟨i, rpL1 o.rp, vdone (d := .int i) g0 q ⟨rfl, rfl⟩ t⟩
  · rename_i k
    obtain ⟨v, e, o1⟩ := obL1 o
    have e1 : v = .bl k := o1.rp.1
    exact .inr ⟨k, by rw [e, e1], vdone (d := .int (if k then 1 else 0)) g0 q ⟨rfl, rfl⟩ t⟩
  · exact t.elim
/-- list(x), of a list or a tuple -/
def gList : List D → (D → Prop) → Prop := fun ds Q => match ds with
  | [.lst _ xs] => xs.length ≤ sizeLine ∧ Q (.lst true xs)
  | [.tup xs] => xs.length ≤ sizeLine ∧ Q (.lst true xs)
  | _ => False
theorem v_list : VOpL X G (fun xs H Q => ∃ p ys, xs = [.ref p] ∧ (SqL X.K H p ys ∨ SqT X.K H p ys) ∧ ∀ l, H l = none → Q (.ref l) (upd H l (.lst ys))) gList := by
  intro n Z H ds xs fx Q' Q g0 o t q
  unfold gList at t
  split at t
  · rename_i ow ys
    obtain ⟨v, e, o1⟩ := obL1 o
    obtain ⟨p, vs, f, e1, hp, l1, s1, _⟩ := o1.lstOpen
    refine ⟨p, vs, by rw [e, e1], .inl (SqL.of hp), fun l hl => ?_⟩
    exact q _ _ (l :: f) Z _ (Stp.new hl fun a m => (List.mem_cons.mp m).elim .inr fun m => .inl (s1 a m)) (g0.new hl) (ob_lst g0 l1 hl) t.2
  · rename_i ys
    obtain ⟨v, e, o1⟩ := obL1 o
    obtain ⟨p, vs, e1, hp, l1⟩ := o1.tupOpen
    refine ⟨p, vs, by rw [e, e1], .inr hp, fun l hl => ?_⟩
    exact q _ _ (l :: fx) Z _ (Stp.new hl fun a m => (List.mem_cons.mp m).elim .inr .inl) (g0.new hl) (ob_lst g0 l1 hl) t.2
  · exact t.elim
def gTuple : List D → (D → Prop) → Prop := fun ds Q => match ds with
  | [.lst _ xs] => Q (.tup xs)
  | [.tup xs] => Q (.tup xs)
  | _ => False
theorem call_tupleR : CallR X (.type "tuple") (fun xs H Q => ∃ x, xs = [x] ∧ kTup X.K x H Q) := by
  intro pins s σ H xs us Q I r h
  obtain ⟨x, e, h⟩ := h
  subst e
  obtain ⟨u, rfl, rx⟩ := vals1 r
  exact rl_tuple pins s σ H x u Q I rx h
theorem v_tuple : VOpL X G (fun xs H Q => ∃ x, xs = [x] ∧ kTup X.K x H Q) gTuple := by
  intro n Z H ds xs fx Q' Q g0 o t q
  unfold gTuple at t
  split at t
  · rename_i ow ys
    obtain ⟨v, e, o1⟩ := obL1 o
    obtain ⟨p, vs, f, e1, hp, l1, s1, _⟩ := o1.lstOpen
    refine ⟨v, e, .inl ⟨p, vs, e1, SqL.of hp, fun l hl => ?_⟩⟩
    exact q _ _ f Z _ (Stp.new hl fun a m => .inl (s1 a m)) (g0.new hl) (ob_tup (n := n) l1 hl) t
  · rename_i ys
    obtain ⟨v, e, o1⟩ := obL1 o
    obtain ⟨p, vs, e1, hp, l1⟩ := o1.tupOpen
    refine ⟨v, e, .inr ⟨p, vs, e1, hp, ?_⟩⟩
    rw [e1] at o1
    exact q _ _ fx Z H ⟨fun _ _ h _ _ => h, fun _ u h => ⟨u, h⟩, fun _ z => z, fun _ z => .inl z, fun a m => .inl m⟩ g0 o1 t
  · exact t.elim

/-! ### tests -/
def gTru : D → (Bool → Prop) → Prop := fun d Q => match d with
  | .bl b => Q b
  | .int i => Q (i != 0)
  | .non => Q false
  | .str z => z.length ≤ sizeLine ∧ Q ((z.length : Int) != 0)
  | .lst _ xs => Q (!xs.isEmpty)
  | .tup xs => Q (!xs.isEmpty)
  | _ => False
theorem isEmpty_len {α β : Type} {xs : List α} {ys : List β} (h : xs.length = ys.length) : xs.isEmpty = ys.isEmpty := by
  cases xs <;> cases ys <;> first | rfl | simp at h
theorem gTru_v {K : PySem.W.Frag} {Z : Zs} {H : Hp} {d : D} {v : V} {fp : List Addr} {Q' : Bool → Prop} (o : Ob K G Z H d v fp) (t : gTru d Q') : ∃ k, TruV K v H k ∧ Q' k := by
  unfold gTru at t
  split at t
  · rename_i b
    have e : v = .bl b := o.rp.1
    subst e
    exact ⟨b, rfl, t⟩
  · rename_i i
    have e : v = .int i := o.rp.1
    subst e
    exact ⟨i != 0, rfl, t⟩
  · have e : v = .non := o.rp.1
    subst e
    exact ⟨false, rfl, t⟩
  · rename_i z
    have e : v = .str z := o.rp.1
    subst e
    exact ⟨_, ⟨t.1, rfl⟩, t.2⟩
  · rename_i ow xs
    obtain ⟨p, vs, f, e1, hp, l1, s1, _⟩ := o.lstOpen
    subst e1
    exact ⟨_, .inl ⟨vs, SqL.of hp, by rw [isEmpty_len l1.rp.len]⟩, t⟩
  · rename_i xs
    obtain ⟨p, vs, e1, hp, l1⟩ := o.tupOpen
    subst e1
    exact ⟨_, .inr (.inl ⟨vs, hp, by rw [isEmpty_len l1.rp.len]⟩), t⟩
  · exact t.elim
def rTru (ta : RE) : RT := fun env Q E => ta env (fun d => gTru d Q) E
theorem jt_e (ha : JE X W G c a ta) (he : ∀ whole, isTrue a X.env whole = (do let v ← whole; standAt a.pos; holding [v] (truthy v)) := by intro _; rfl) : JT X W G c a (rTru ta) := ptImp (pt_truth ha he) fun σ H Q h => by
  obtain ⟨n, Z, env, Q', E', p, w, t, q, x⟩ := h
  refine ⟨n, Z, env, _, E', p, w, t, fun d v fp Z1 H1 r1 o1 t1 => ?_, x⟩
  obtain ⟨k, e1, e2⟩ := gTru_v o1 t1
  exact ⟨k, e1, q k Z1 H1 r1.nofp e2⟩
def gBl : D → (Bool → Prop) → Prop := fun d Q => match d with
  | .bl b => Q b
  | _ => False
theorem jt_cmp {op : CmpOp} {r : R2} {g : D → D → (D → Prop) → Prop} (ho : OpR X (compareOp op) r) (hv : VOp2 X G r g) (ha : JE X W G c1 a ta) (hb : JE X W G c2 b tb) (hm : behindInMarks op b = false) : JT X W G (c1 + c2) (.Compare a [op] [b] pos) (fun env Q E => r2 ta tb g env (fun d => gBl d Q) E) :=
  ptImp (pt_cmpR ho ha hb hm) fun σ H Q h => by
    obtain ⟨n, Z, env, Q', E', p, w, t, q, x⟩ := h
    refine tOp_of hv σ H _ ⟨n, Z, env, _, E', p, w, t, fun d v fp Z1 H1 r1 o1 t1 => ?_, x⟩
    unfold gBl at t1
    split at t1
    · rename_i b
      exact ⟨b, o1.rp.1, q b Z1 H1 r1.nofp t1⟩
    · exact t1.elim
theorem jt_lt (ha : JE X W G c1 a ta) (hb : JE X W G c2 b tb) : JT X W G (c1 + c2) (.Compare a [.Lt] [b] pos) (fun env Q E => r2 ta tb (gII fun i j Q => Q (.bl (decide (i < j)))) env (fun d => gBl d Q) E) := jt_cmp op_lt (v_rI0 fun _ _ _ _ _ => ⟨rfl, rfl⟩) ha hb (nomark _)
theorem jt_le (ha : JE X W G c1 a ta) (hb : JE X W G c2 b tb) : JT X W G (c1 + c2) (.Compare a [.LtE] [b] pos) (fun env Q E => r2 ta tb (gII fun i j Q => Q (.bl (decide (i ≤ j)))) env (fun d => gBl d Q) E) := jt_cmp op_le (v_rI0 fun _ _ _ _ _ => ⟨rfl, rfl⟩) ha hb (nomark _)
theorem jt_gt (ha : JE X W G c1 a ta) (hb : JE X W G c2 b tb) : JT X W G (c1 + c2) (.Compare a [.Gt] [b] pos) (fun env Q E => r2 ta tb (gII fun i j Q => Q (.bl (decide (j < i)))) env (fun d => gBl d Q) E) := jt_cmp op_gt (v_rI0 fun _ _ _ _ _ => ⟨rfl, rfl⟩) ha hb (nomark _)
theorem jt_ge (ha : JE X W G c1 a ta) (hb : JE X W G c2 b tb) : JT X W G (c1 + c2) (.Compare a [.GtE] [b] pos) (fun env Q E => r2 ta tb (gII fun i j Q => Q (.bl (decide (j ≤ i)))) env (fun d => gBl d Q) E) := jt_cmp op_ge (v_rI0 fun _ _ _ _ _ => ⟨rfl, rfl⟩) ha hb (nomark _)
theorem jt_eq (hu : X.A.units + 64 < cLine) (ha : JE X W G c1 a ta) (hb : JE X W G c2 b tb) : JT X W G (c1 + c2) (.Compare a [.Eq] [b] pos) (fun env Q E => r2 ta tb gEq env (fun d => gBl d Q) E) := jt_cmp (op_eqP hu) v_eq ha hb (nomark _)
theorem jt_ne (hu : X.A.units + 64 < cLine) (ha : JE X W G c1 a ta) (hb : JE X W G c2 b tb) : JT X W G (c1 + c2) (.Compare a [.NotEq] [b] pos) (fun env Q E => r2 ta tb gNe env (fun d => gBl d Q) E) := jt_cmp (op_neP hu) v_ne ha hb (nomark _)
theorem je_eq (hu : X.A.units + 64 < cLine) (ha : JE X W G c1 a ta) (hb : JE X W G c2 b tb) : JE X W G (c1 + c2) (.Compare a [.Eq] [b] pos) (r2 ta tb gEq) := je_cmp (op_eqP hu) v_eq ha hb (nomark _)
theorem je_ne (hu : X.A.units + 64 < cLine) (ha : JE X W G c1 a ta) (hb : JE X W G c2 b tb) : JE X W G (c1 + c2) (.Compare a [.NotEq] [b] pos) (r2 ta tb gNe) := je_cmp (op_neP hu) v_ne ha hb (nomark _)
theorem jt_isN (ha : JE X W G c1 a ta) (hb : JE X W G c2 b tb) : JT X W G (c1 + c2) (.Compare a [.Is] [b] pos) (fun env Q E => r2 ta tb gIsN env (fun d => gBl d Q) E) := jt_cmp op_isN v_isN ha hb (nomark _)
theorem jt_notN (ha : JE X W G c1 a ta) (hb : JE X W G c2 b tb) : JT X W G (c1 + c2) (.Compare a [.IsNot] [b] pos) (fun env Q E => r2 ta tb gNotN env (fun d => gBl d Q) E) := jt_cmp op_notN v_notN ha hb (nomark _)
theorem je_isN (ha : JE X W G c1 a ta) (hb : JE X W G c2 b tb) : JE X W G (c1 + c2) (.Compare a [.Is] [b] pos) (r2 ta tb gIsN) := je_cmp op_isN v_isN ha hb (nomark _)
theorem je_notN (ha : JE X W G c1 a ta) (hb : JE X W G c2 b tb) : JE X W G (c1 + c2) (.Compare a [.IsNot] [b] pos) (r2 ta tb gNotN) := je_cmp op_notN v_notN ha hb (nomark _)
def rtNot (t : RT) : RT := fun env Q E => t env (fun b => Q (!b)) E
def rtAnd (t u : RT) : RT := fun env Q E => t env (fun b => match b with
  | true => u env Q E
  | false => Q false) E
def rtOr (t u : RT) : RT := fun env Q E => t env (fun b => match b with
  | true => Q true
  | false => u env Q E) E
section
variable {t u : RT} {rest : List Expr}
theorem jt_not (ha : JT X W G c a t) : JT X W G c (.UnaryOp .Not a pos) (rtNot t) := ptImp (pt_not ha) fun σ H Q h => by
  obtain ⟨n, Z, env, Q', E', p, w, t, q, x⟩ := h
  exact ⟨n, Z, env, _, E', p, w, t, fun b Z1 H1 r1 t1 => q (!b) Z1 H1 r1 t1, x⟩
theorem JW.jt (h : JW X W G c a t) : JT X W G c a t := h.pt
theorem jw_and1 (ha : JT X W G c a t) : JW X W G c (.BoolOp .And [a] pos) t := pw_and1 ha
theorem jw_or1 (ha : JT X W G c a t) : JW X W G c (.BoolOp .Or [a] pos) t := pw_or1 ha
theorem jw_and (ha : JT X W G c1 a t) (hb : JW X W G c2 (.BoolOp .And (b :: rest) pos) u) : JW X W G (c1 + c2) (.BoolOp .And (a :: b :: rest) pos) (rtAnd t u) := pwImp (pw_and ha hb) fun σ H Q h => by
  obtain ⟨n, Z, env, Q', E', p, w, t, q, x⟩ := h
  refine ⟨n, Z, env, _, E', p.left, w, t, fun b Z1 H1 r1 t1 => ?_, fun y cls da Z1 H1 r => x y cls da Z1 H1 r.up⟩
  cases b with
  | true =>
    show if true = true then _ else _
    rw [if_pos rfl]
    exact ⟨n + c1, Z1, env, _, E', p.right r1, w.step p.gd r1.st, t1, fun b Z2 H2 r2 t2 => q b Z2 H2 (r1.then0 r2) t2, fun y cls da Z2 H2 r => x y cls da Z2 H2 (r1.then0 r)⟩
  | false =>
    show if false = true then _ else _
    rw [if_neg Bool.false_ne_true]
    exact q false Z1 H1 r1.up t1
theorem jw_or (ha : JT X W G c1 a t) (hb : JW X W G c2 (.BoolOp .Or (b :: rest) pos) u) : JW X W G (c1 + c2) (.BoolOp .Or (a :: b :: rest) pos) (rtOr t u) := pwImp (pw_or ha hb) fun σ H Q h => by
  obtain ⟨n, Z, env, Q', E', p, w, t, q, x⟩ := h
  refine ⟨n, Z, env, _, E', p.left, w, t, fun b Z1 H1 r1 t1 => ?_, fun y cls da Z1 H1 r => x y cls da Z1 H1 r.up⟩
  cases b with
  | true =>
    show if true = true then _ else _
    rw [if_pos rfl]
    exact q true Z1 H1 r1.up t1
  | false =>
    show if false = true then _ else _
    rw [if_neg Bool.false_ne_true]
    exact ⟨n + c1, Z1, env, _, E', p.right r1, w.step p.gd r1.st, t1, fun b Z2 H2 r2 t2 => q b Z2 H2 (r1.then0 r2) t2, fun y cls da Z2 H2 r => x y cls da Z2 H2 (r1.then0 r)⟩
/-! a if t else b -/
def rIte (t : RT) (ta tb : RE) : RE := fun env Q E => t env (fun k => match k with
  | true => ta env Q E
  | false => tb env Q E) E
theorem je_ite {ec : Expr} (hc : JT X W G c1 ec t) (ha : JE X W G c2 a ta) (hb : JE X W G c3 b tb) : JE X W G (c1 + (c2 + c3)) (.IfExp ec a b pos) (rIte t ta tb) := peImp (pe_ifExp hc ha hb) fun σ H Q h => by
  obtain ⟨n, Z, env, Q', E', p, w, t, q, x⟩ := h
  have l := p.le
  refine ⟨n, Z, env, _, E', ⟨p.gd, by omega⟩, w, t, fun k Z1 H1 r1 t1 => ?_, fun y cls da Z1 H1 r => x y cls da Z1 H1 r.up⟩
  cases k with
  | true =>
    show if true = true then _ else _
    rw [if_pos rfl]
    refine ⟨n + c1, Z1, env, _, E', ⟨r1.gd, by omega⟩, w.step p.gd r1.st, t1, fun d v fp Z2 H2 r2 o2 t2 => q d v fp Z2 H2 ?_ o2 t2, fun y cls da Z2 H2 r => x y cls da Z2 H2 ?_⟩
    · have := r1.par r2
      exact ⟨this.st, this.gd.up (by omega)⟩
    · have := r1.then0 r
      exact ⟨this.st, this.gd.up (by omega)⟩
  | false =>
    show if false = true then _ else _
    rw [if_neg Bool.false_ne_true]
    refine ⟨n + c1, Z1, env, _, E', ⟨r1.gd, by omega⟩, w.step p.gd r1.st, t1, fun d v fp Z2 H2 r2 o2 t2 => q d v fp Z2 H2 ?_ o2 t2, fun y cls da Z2 H2 r => x y cls da Z2 H2 ?_⟩
    · have := r1.par r2
      exact ⟨this.st, this.gd.up (by omega)⟩
    · have := r1.then0 r
      exact ⟨this.st, this.gd.up (by omega)⟩
/-! and, or as values -/
def rvAnd (ta tb : RE) : RE := fun env Q E => ta env (fun d => gTru d (fun k => match k with
  | true => tb env Q E
  | false => Q d)) E
def rvOr (ta tb : RE) : RE := fun env Q E => ta env (fun d => gTru d (fun k => match k with
  | true => Q d
  | false => tb env Q E)) E
theorem je_one {op : BoolOp} (h : JE X W G c a ta) : JE X W G c (.BoolOp op [a] pos) ta := pe_one h
theorem je_and (ha : JE X W G c1 a ta) (hb : JE X W G c2 (.BoolOp .And (b :: rest) pos) tb) : JE X W G (c1 + c2) (.BoolOp .And (a :: b :: rest) pos) (rvAnd ta tb) := peImp (pe_andT ha hb) fun σ H Q h => by
  obtain ⟨n, Z, env, Q', E', p, w, t, q, x⟩ := h
  refine ⟨n, Z, env, _, E', p.left, w, t, fun d v fp Z1 H1 r1 o1 t1 => ?_, fun y cls da Z1 H1 r => x y cls da Z1 H1 r.up⟩
  obtain ⟨k, e1, e2⟩ := gTru_v o1 t1
  refine ⟨k, e1, ?_⟩
  cases k with
  | true =>
    rw [if_pos rfl]
    exact ⟨n + c1, Z1, env, _, E', p.right r1, w.step p.gd r1.nofp.st, e2, fun d2 v2 f2 Z2 H2 r2 o2 t2 => q d2 v2 f2 Z2 H2 ⟨⟨(r1.par r2).st.keep, (r1.par r2).st.there, (r1.par r2).st.zz, (r1.par r2).st.zn, fun a m => (r1.par r2).st.fn a (List.mem_append_right _ m)⟩, (r1.par r2).gd⟩ o2 t2, fun y cls da Z2 H2 r => x y cls da Z2 H2 (r1.then0 r)⟩
  | false =>
    rw [if_neg Bool.false_ne_true]
    exact q d v fp Z1 H1 r1.up o1 e2
theorem je_or (ha : JE X W G c1 a ta) (hb : JE X W G c2 (.BoolOp .Or (b :: rest) pos) tb) : JE X W G (c1 + c2) (.BoolOp .Or (a :: b :: rest) pos) (rvOr ta tb) := peImp (pe_orT ha hb) fun σ H Q h => by
  obtain ⟨n, Z, env, Q', E', p, w, t, q, x⟩ := h
  refine ⟨n, Z, env, _, E', p.left, w, t, fun d v fp Z1 H1 r1 o1 t1 => ?_, fun y cls da Z1 H1 r => x y cls da Z1 H1 r.up⟩
  obtain ⟨k, e1, e2⟩ := gTru_v o1 t1
  refine ⟨k, e1, ?_⟩
  cases k with
  | true =>
    rw [if_pos rfl]
    exact q d v fp Z1 H1 r1.up o1 e2
  | false =>
    rw [if_neg Bool.false_ne_true]
    exact ⟨n + c1, Z1, env, _, E', p.right r1, w.step p.gd r1.nofp.st, e2, fun d2 v2 f2 Z2 H2 r2 o2 t2 => q d2 v2 f2 Z2 H2 ⟨⟨(r1.par r2).st.keep, (r1.par r2).st.there, (r1.par r2).st.zz, (r1.par r2).st.zn, fun a m => (r1.par r2).st.fn a (List.mem_append_right _ m)⟩, (r1.par r2).gd⟩ o2 t2, fun y cls da Z2 H2 r => x y cls da Z2 H2 (r1.then0 r)⟩
def rvNot (ta : RE) : RE := fun env Q E => ta env (fun d => gTru d (fun k => Q (.bl (!k)))) E
theorem je_not (ha : JE X W G c a ta) : JE X W G c (.UnaryOp .Not a pos) (rvNot ta) := peImp (pe_notT ha) fun σ H Q h => by
  obtain ⟨n, Z, env, Q', E', p, w, t, q, x⟩ := h
  refine ⟨n, Z, env, _, E', p, w, t, fun d v fp Z1 H1 r1 o1 t1 => ?_, x⟩
  obtain ⟨k, e1, e2⟩ := gTru_v o1 t1
  exact ⟨k, e1, q (.bl (!k)) _ [] Z1 H1 r1.nofp (Ob.flat ⟨rfl, rfl⟩) e2⟩
end
end
end TT

set_option Elab.async false
set_option linter.all false
set_option maxRecDepth 100000
namespace TT
open PySem PySem.Spec PyProof.Rows L2

/-! ### comprehensions -/
/-- the slots that are true -/
def idxT : Nat → List Bool → List Nat
  | k, true :: ms => k :: idxT (k + 1) ms
  | k, false :: ms => idxT (k + 1) ms
  | _, [] => []
def blkE : List Bool → Ev → Ev
  | true :: ms, _ :: r => none :: blkE ms r
  | false :: ms, o :: r => o.map frz :: blkE ms r
  | [], o :: r => o.map frz :: blkE [] r
  | _, [] => []
theorem blkE_len : ∀ (ms : List Bool) (env : Ev), (blkE ms env).length = env.length
  | true :: ms, o :: r => congrArg (· + 1) (blkE_len ms r)
  | false :: ms, o :: r => congrArg (· + 1) (blkE_len ms r)
  | [], _ :: r => congrArg (· + 1) (blkE_len [] r)
  | [], [] => rfl
  | true :: _, [] => rfl
  | false :: _, [] => rfl
theorem idxT_ge : ∀ (ms : List Bool) (k j : Nat), j ∈ idxT k ms → k ≤ j
  | true :: ms, k, j, h => by
    rcases List.mem_cons.mp h with h | h
    · omega
    · have := idxT_ge ms (k + 1) j h; omega
  | false :: ms, k, j, h => by
    have := idxT_ge ms (k + 1) j h; omega
  | [], k, j, h => by cases h
theorem blkE_at : ∀ (ms : List Bool) (env : Ev) (k i : Nat) (d : D), (blkE ms env)[i]? = some (some d) → (∃ d0, env[i]? = some (some d0) ∧ d = frz d0) ∧ (k + i) ∉ idxT k ms
  | true :: ms, o :: r, k, 0, d, h => by cases h
  | true :: ms, o :: r, k, i + 1, d, h => by
    have h' : (blkE ms r)[i]? = some (some d) := h
    obtain ⟨a, b⟩ := blkE_at ms r (k + 1) i d h'
    refine ⟨a, fun m => ?_⟩
    rcases List.mem_cons.mp m with m | m
    · omega
    · exact b (by rw [show k + 1 + i = k + (i + 1) by omega]; exact m)
  | false :: ms, o :: r, k, 0, d, h => by
    refine ⟨?_, fun m => ?_⟩
    · cases o with
      | none => cases h
      | some d0 => exact ⟨d0, rfl, (Option.some.inj (Option.some.inj h)).symm⟩
    · have := idxT_ge ms (k + 1) _ m; omega
  | false :: ms, o :: r, k, i + 1, d, h => by
    have h' : (blkE ms r)[i]? = some (some d) := h
    obtain ⟨a, b⟩ := blkE_at ms r (k + 1) i d h'
    exact ⟨a, fun m => b (by rw [show k + 1 + i = k + (i + 1) by omega]; exact m)⟩
  | [], o :: r, k, 0, d, h => by
    refine ⟨?_, (fun m => (nomatch m))⟩
    cases o with
    | none => cases h
    | some d0 => exact ⟨d0, rfl, (Option.some.inj (Option.some.inj h)).symm⟩
  | [], o :: r, k, i + 1, d, h => by
    have h' : (blkE [] r)[i]? = some (some d) := h
    obtain ⟨a, b⟩ := blkE_at [] r (k + 1) i d h'
    exact ⟨a, (fun m => (nomatch m))⟩
  | [], [], k, i, d, h => by simp [blkE] at h
  | true :: _, [], k, i, d, h => by simp [blkE] at h
  | false :: _, [], k, i, d, h => by simp [blkE] at h
theorem wipe_out {σ : L2.St} {i : Nat} : ∀ {vs : List Nat}, i ∉ vs → (wipe σ vs)[i]? = σ[i]?
  | [], h => rfl
  | v :: vs, h => by
    unfold wipe
    rw [List.getElem?_set_ne (fun e => h (by simp [e])), wipe_out fun z => h (List.mem_cons_of_mem _ z)]
theorem wipe_in {σ : L2.St} {i : Nat} : ∀ {vs : List Nat}, i ∈ vs → i < σ.length → (wipe σ vs)[i]? = some none
  | v :: vs, h, l => by
    unfold wipe
    by_cases e : v = i
    · subst e
      rw [List.getElem?_set_self (by rw [wipe_length]; exact l)]
    · rw [List.getElem?_set_ne e]
      exact wipe_in ((List.mem_cons.mp h).resolve_left fun z => e z.symm) l
theorem wipe_same {σ σ2 : L2.St} {vs : List Nat} (hl : σ2.length = σ.length) (k : ∀ j, j ∉ vs → σ2[j]? = (wipe σ vs)[j]?) : wipe σ2 vs = wipe σ vs := by
  refine List.ext_getElem? fun j => ?_
  by_cases hj : j ∈ vs
  · by_cases hl2 : j < σ.length
    · rw [wipe_in hj hl2, wipe_in hj (by rw [hl]; exact hl2)]
    · rw [List.getElem?_eq_none (by rw [wipe_length]; omega), List.getElem?_eq_none (by rw [wipe_length]; omega)]
  · rw [wipe_out hj, k j hj]
section
variable {K : PySem.W.Frag} {G : Bg} {n : Nat} {Z : Zs} {H : Hp} {env : Ev} {σ : L2.St} {F : List (List Addr)}
theorem Vw.blk (w : Vw K G Z H env σ) (g : Gd G n Z H) (ms : List Bool) : Stt K G n Z H (blkE ms env) (wipe σ (idxT 0 ms)) (List.replicate env.length []) := by
  have ef : (List.replicate env.length ([] : List Addr)).flatten = [] := by simp
  refine ⟨g, by rw [blkE_len, wipe_length]; exact w.len, by rw [List.length_replicate, blkE_len], fun i d h => ?_, by rw [ef]; exact List.nodup_nil, fun a m => ?_, fun a m => ?_, fun a m => ?_⟩
  · obtain ⟨⟨d0, h0, e⟩, hn⟩ := blkE_at ms env 0 i d h
    rw [Nat.zero_add] at hn
    obtain ⟨v, e1, r⟩ := w.at_ i d0 h0
    have hi : i < env.length := (List.getElem?_eq_some_iff.mp h0).1
    exact ⟨v, [], by rw [wipe_out hn]; exact e1, by rw [List.getElem?_replicate, if_pos hi], by rw [e]; exact r⟩
  · rw [ef] at m; cases m
  · rw [ef] at m; cases m
  · rw [ef] at m; cases m
theorem Stt.vw (s : Stt K G n Z H env σ F) (hF : ∀ a ∈ F.flatten, False) : Vw K G Z H env σ := ⟨s.len, fun i d h => by
  obtain ⟨v, fp, e1, e2, r⟩ := s.at_ i d h
  exact ⟨v, e1, Rp.frz (fun _ z => z) d v fp (fun a m => (hF a (memF e2 a m)).elim) r⟩⟩
end
theorem ObL.one {K : PySem.W.Frag} {G : Bg} {Z : Zs} {H : Hp} {d : D} {v : V} {f : List Addr} (o : Ob K G Z H d v f) : ObL K G Z H [d] [v] f := ⟨RpL.one o.rp, o.nd, o.nz, o.nb⟩
abbrev W0 : WX := fun _ _ _ _ => False
def rLcL (g : RG) (tt : RT) (te : RE) (env : Ev) : List D → List D → (List D → Prop) → Prop
  | [], acc, Q => Q acc
  | d :: ds, acc, Q => g d env fun env1 => tt env1 (fun b => match b with
    | true => te env1 (fun y => rLcL g tt te env ds (acc ++ [y]) Q) (fun _ => False)
    | false => rLcL g tt te env ds acc Q) (fun _ => False)
def rtYes : RT := fun _ Q _ => Q true
def rLc (ms : List Bool) (N : Nat) (ti : RI) (g : RG) (tt : RT) (te : RE) : RE := fun env Q E => ti env (fun items => items.length ≤ N ∧ items.length ≤ sizeLine ∧ rLcL g tt te (blkE ms env) items [] (fun acc => Q (.lst true acc))) E
section
variable {X : Cx} {W : WX} {G : Bg} {c c1 c2 c3 : Nat} {elt tg iter : Expr} {pos : Pos}
theorem jt_yes {X : Cx} : PTs X [] (liT X W0 G 0 rtYes) := ⟨fun pins s σ H Q I h => by
  obtain ⟨n, Z, env, Q', E', p, w, t, q, x⟩ := h
  exact pts_nil.run pins s σ H Q I (q true Z H (Rs.zero p) t)⟩
theorem tLc_of {own : List (Str × Nat)} {ti : RI} {g : RG} {tt : RT} {te : RE} {ks : List Nat} {ms : List Bool} {N : Nat} (hms : own.map (·.2) = idxT 0 ms) (hks : ∀ k ∈ ks, k ∈ idxT 0 ms) (σ : L2.St) (H : Hp) (Q : VK)
    (h : liE X W G (c1 + N * (c2 + c3)) (rLc ms N ti g tt te) σ H Q) : tLc (liI X W G c1 ti) (liG X G ks g) (liT X W0 G c2 tt) (liE X W0 G c3 te) (own.map (·.2)) σ H Q := by
  obtain ⟨n, Z, env, Q', E', p, w, t, q, x⟩ := h
  have pl := p.le
  refine ⟨n, Z, env, _, E', p.left, w, t, fun items J Z1 H1 r1 wl t1 => ?_, fun y cls da Z1 H1 r => x y cls da Z1 H1 r.up⟩
  obtain ⟨tN, tS, t1⟩ := t1
  intro D hD
  rw [hms]
  have w1 := w.step p.gd r1.st
  have le : ∀ i, i ≤ items.length → i * (c2 + c3) ≤ N * (c2 + c3) := fun i hi => Nat.mul_le_mul_right _ (Nat.le_trans hi tN)
  refine ⟨fun i m H2 => m = items.length - i ∧ i ≤ items.length ∧ ∃ acc vs fp Z2, acc.length ≤ i ∧ H2 D = some (.lst vs) ∧ Stp G [] Z1 H1 [] Z2 H2 (D :: fp) ∧ Gd G (n + c1 + i * (c2 + c3)) Z2 H2 ∧ ObL X.K G Z2 H2 acc vs fp ∧ ¬ Z2 D ∧ ¬ inB G D ∧ D ∉ fp ∧ rLcL g tt te (blkE ms env) (items.drop i) acc (fun acc => Q' (.lst true acc)), ?_, ?_⟩
  · have nb : ¬ inB G D := fun i => by
      obtain ⟨o, e⟩ := r1.gd.bag.tracked i
      rw [hD] at e; cases e
    refine ⟨items.length, by simp, Nat.zero_le _, [], [], [], Z1, Nat.le_refl _, upd_same, Stp.new hD fun a m => .inr (by simpa using m), by rw [Nat.zero_mul, Nat.add_zero]; exact r1.gd.new hD, ObL.nil, fun z => ?_, nb, (fun m => (nomatch m)), by simpa using t1⟩
    obtain ⟨o, e⟩ := r1.gd.tr D z
    rw [hD] at e; cases e
  · rintro i m H2 ⟨rfl, hi, acc, vs, fp, Z2, la, hDv, st, gd, ob, nz, nb, nfp, t2⟩
    have lt : Later Z1 H1 Z2 H2 := ⟨fun a o h cs => st.keep a o h (by
      rcases cs with cs | cs
      · exact r1.gd.notMut h cs
      · exact r1.gd.nz a cs) (fun z => (nomatch z)), st.zz⟩
    by_cases hlt : i < items.length
    · have hd : items[i]? = some items[i] := List.getElem?_eq_getElem hlt
      rw [List.drop_eq_getElem_cons hlt] at t2
      have le1 := le (i + 1) hlt
      rw [Nat.succ_mul] at le1
      refine .inr ⟨wl.go Z2 H2 i lt hlt, fun H' => ∃ acc vs fp Z2, acc.length ≤ i + 1 ∧ H' D = some (.lst vs) ∧ Stp G [] Z1 H1 [] Z2 H' (D :: fp) ∧ Gd G (n + c1 + (i + 1) * (c2 + c3)) Z2 H' ∧ ObL X.K G Z2 H' acc vs fp ∧ ¬ Z2 D ∧ ¬ inB G D ∧ D ∉ fp ∧ rLcL g tt te (blkE ms env) (items.drop (i + 1)) acc (fun acc => Q' (.lst true acc)),
        fun H' h' => ⟨items.length - (i + 1), by omega, rfl, hlt, h'⟩, fun v H' hy => ?_⟩
      obtain ⟨sy, gy, ry⟩ := wl.yl Z2 H2 _ i v H' _ lt gd hd hy
      have w2 : Vw X.K G Z2 H' env σ := (w1.step r1.gd st.drop).step gd sy
      have s2 := w2.blk gy ms
      have ef : (List.replicate env.length ([] : List Addr)).flatten = [] := by simp
      refine ⟨_, Z2, blkE ms env, _, items[i], [], _, s2, Ob.flat ry, (fun a m => (nomatch m)), t2, fun env4 σ4 F4 s4 sub kp t4 => ?_⟩
      have hF4 : ∀ a ∈ F4.flatten, False := fun a m => (sub a m).elim (fun z => (nomatch z)) fun z => by rw [ef] at z; cases z
      refine ⟨wipe_same (by rw [kp.1, wipe_length]) (fun j hj => kp.2 j fun z => hj (hks j z)), ?_⟩
      refine ⟨_, Z2, env4, _, _, ⟨gy, by omega⟩, s4.vw hF4, t4, fun b Z3 H3 r3 t5 => ?_, fun y cls da Z3 H3 r3 xr e => e.elim⟩
      have ob1 := (ob.step gd sy).step gy r3.st
      have stA : Stp G [] Z1 H1 [] Z3 H3 (D :: fp) := by
        have q1 := (st.par sy).par r3.st
        exact ⟨q1.keep, q1.there, q1.zz, q1.zn, fun a m => q1.fn a (by simpa using m)⟩
      have hD3 : H3 D = some (.lst vs) := r3.st.keep D _ (sy.keep D _ hDv nb (fun z => (nomatch z))) nb (fun z => (nomatch z))
      have nz3 : ¬ Z3 D := fun z => by
        rcases r3.st.zn D z with z | z | z
        · exact nz z
        · cases z
        · have := sy.keep D _ hDv nb (fun z => (nomatch z))
          rw [z] at this; cases this
      cases b with
      | true =>
        show if true = true then _ else _
        rw [if_pos rfl]
        refine ⟨_, Z3, env4, _, _, ⟨r3.gd, by omega⟩, (s4.vw hF4).step gy r3.st, t5, fun y u fy Z4 H4 r4 oy t6 => ?_, fun y cls da Z4 H4 r4 xr e => e.elim⟩
        have hD4 : H4 D = some (.lst vs) := r4.st.keep D _ hD3 nb (fun z => (nomatch z))
        have nz4 : ¬ Z4 D := fun z => by
          rcases r4.st.zn D z with z | z | z
          · exact nz3 z
          · cases z
          · rw [hD3] at z; cases z
        have ob2 := ob1.step r3.gd r4.st
        have fr : ∀ a ∈ fy, H3 a = none := fun a m => (r4.st.fn a m).elim (fun z => (nomatch z)) id
        have nfy : D ∉ fy := fun m => by
          have := fr D m
          rw [hD3] at this; cases this
        have obA : ObL X.K G Z4 H4 (acc ++ [y]) (vs ++ [u]) (fp ++ fy) := by
          exact ob2.app (ObL.one oy) (fun a ha b hb => apart (RpL.fpMut _ _ _ ob1.rp) fr a ha b hb)
        refine ⟨vs, hD4, ?_, acc ++ [y], vs ++ [u], fp ++ fy, Z4, by simp; omega, upd_same, ?_, ?_, ⟨?_, obA.nd, obA.nz, obA.nb⟩, nz4, nb, fun m => (List.mem_append.mp m).elim nfp nfy, t6⟩
        · rw [ob.rp.len]; omega
        · have q2 := stA.par r4.st
          refine ⟨fun a o h b m => ?_, fun a o h => ?_, q2.zz, q2.zn, fun a m => q2.fn a (by simpa using m)⟩
          · rw [upd_ne (fun e => by rw [e, hD] at h; cases h)]
            exact q2.keep a o h b m
          · rw [upd_ne (fun e => by rw [e, hD] at h; cases h)]
            exact q2.there a o h
        · have g4 := r4.gd
          refine ⟨(g4.bag.up ?_).keep fun a i => upd_ne fun e => nb (by rw [← e]; exact i), g4.nz, fun a z => ?_⟩
          · rw [Nat.succ_mul]; omega
          · obtain ⟨o, e⟩ := g4.tr a z
            exact ⟨o, by rw [upd_ne (fun e' => nz4 (by rw [← e']; exact z))]; exact e⟩
        · refine RpL.keep (fun _ z => z) _ _ _ (fun a o h cs => ?_) obA.rp
          rw [upd_ne (fun e => ?_)]
          · exact h
          · subst e
            rcases cs with cs | cs | cs
            · rw [hD4] at h; cases h; exact cs trivial
            · exact nz4 cs
            · exact (List.mem_append.mp cs).elim nfp nfy
      | false =>
        show if false = true then _ else _
        rw [if_neg Bool.false_ne_true]
        exact ⟨acc, vs, fp, Z3, by omega, hD3, stA, r3.gd.up (by rw [Nat.succ_mul]; omega), ob1, nz3, nb, nfp, t5⟩
    · have e : i = items.length := by omega
      subst e
      rw [List.drop_length] at t2
      refine .inl ⟨wl.st Z2 H2 lt, ?_⟩
      have := le _ (Nat.le_refl items.length)
      refine q (.lst true acc) (.ref D) (D :: fp) Z2 H2 ⟨r1.st.trans st (fun a h => (nomatch h)), gd.up (by omega)⟩ ⟨⟨D, vs, fp, rfl, hDv, ob.rp, rfl⟩, List.nodup_cons.mpr ⟨nfp, ob.nd⟩, fun a m => ?_, fun a m => ?_⟩ t2
      · rcases List.mem_cons.mp m with m | m
        · rw [m]; exact nz
        · exact ob.nz a m
      · rcases List.mem_cons.mp m with m | m
        · rw [m]; exact nb
        · exact ob.nb a m

theorem je_lc {ifs : List Expr} {scope : Scope} {own : List (Str × Nat)} {ti : RI} {g : RG} {tt : RT} {te : RE} {ks : List Nat} (ms : List Bool) (N : Nat) (hc : X.calm = true) (hN : X.N.Nodup) (hi : JI X W G c1 tg iter ti) (ok : BlkOk X.N X.env.scope scope own) (hms : own.map (·.2) = idxT 0 ms) (hks : ∀ k ∈ ks, k ∈ idxT 0 ms)
    (hg : ∀ (s : Shared) (H : Hp) (C : Addr) (cl : List (Str × Addr)) (fp : List Addr), JG (X.blk s H scope (compEnvC scope cl C X.env) fp) G ks tg g)
    (ht : ∀ (s : Shared) (H : Hp) (C : Addr) (cl : List (Str × Addr)) (fp : List Addr), PTs (X.blk s H scope (compEnvC scope cl C X.env) fp) ifs (liT (X.blk s H scope (compEnvC scope cl C X.env) fp) W0 G c2 tt))
    (he : ∀ (s : Shared) (H : Hp) (C : Addr) (cl : List (Str × Addr)) (fp : List Addr), JE (X.blk s H scope (compEnvC scope cl C X.env) fp) W0 G c3 elt te) (hs : ∀ x, foldedSetIterable iter X.env x = pure x := by intro _; rfl) :
    JE X W G (c1 + N * (c2 + c3)) (.ListComp elt [⟨tg, iter, ifs, 0⟩] scope pos) (rLc ms N ti g tt te) :=
  peImp (pe_lc (g := liG X G ks g) (tt := liT X W0 G c2 tt) (te := liE X W0 G c3 te) hc hN hi ok hg ht he hs) (tLc_of hms hks)
/-- name = [..], on one line -/
theorem js_setLc {ifs : List Expr} {scope : Scope} {own : List (Str × Nat)} {ti : RI} {g : RG} {tt : RT} {te : RE} {ks : List Nat} {i : Nat} {y : Str} {py spos : Pos} (mv : List Bool) (ms : List Bool) (N : Nat) (hc : X.calm = true) (hN : X.N.Nodup) (hy : X.N[i]? = some y) (hyl : X.env.scope.names.lookup y = some .local)
    (hsw : swapsWith (.ListComp elt [⟨tg, iter, ifs, 0⟩] scope pos) (some (.Name y py)) spos.line X.env = pure true) (hi : JI X W G c1 tg iter ti) (ok : BlkOk X.N X.env.scope scope own) (hms : own.map (·.2) = idxT 0 ms) (hks : ∀ k ∈ ks, k ∈ idxT 0 ms)
    (hg : ∀ (s : Shared) (H : Hp) (C : Addr) (cl : List (Str × Addr)) (fp : List Addr), JG (X.blk s H scope (compEnvC scope cl C X.env) fp) G ks tg g)
    (ht : ∀ (s : Shared) (H : Hp) (C : Addr) (cl : List (Str × Addr)) (fp : List Addr), PTs (X.blk s H scope (compEnvC scope cl C X.env) fp) ifs (liT (X.blk s H scope (compEnvC scope cl C X.env) fp) W0 G c2 tt))
    (he : ∀ (s : Shared) (H : Hp) (C : Addr) (cl : List (Str × Addr)) (fp : List Addr), JE (X.blk s H scope (compEnvC scope cl C X.env) fp) W0 G c3 elt te) (hs : ∀ x, foldedSetIterable iter X.env x = pure x := by intro _; rfl) :
    JS X W G (c1 + N * (c2 + c3)) (.Assign [.Name y py] (.ListComp elt [⟨tg, iter, ifs, 0⟩] scope pos) spos) (rAsg (rOf mv (rLc ms N ti g tt te)) (gNm i)) :=
  psImp (ps_setLc (g := liG X G ks g) (tt := liT X W0 G c2 tt) (te := liE X W0 G c3 te) hc hN hy hyl hsw hi ok hg ht he hs) fun Dn σ H h => by
    obtain ⟨n, Z, env, F, P, l, s, t, qn, qb, qc, qr, qx⟩ := h
    obtain ⟨gv, w⟩ := s.view mv
    have t' : rLc ms N ti g tt te (mask mv env) (fun d => P.nx ((aft mv env d).set i (some d))) (fun x => P.ex x (frzS mv env)) := t
    refine tLc_of (W := W) (N := N) hms hks σ H _ ⟨n, _, mask mv env, _, _, ⟨gv, l⟩, w, t', fun d v fp Z1 H1 r1 o1 t1 => ?_, fun y cls da Z1 H1 r1 xr e1 => qx y cls da Z1 _ σ H1 _ (s.fails r1) xr e1⟩
    obtain ⟨Z2, F2, s2, o2, ap, st⟩ := s.after r1 o1
    refine qn Z2 _ _ H1 _ ⟨⟨st.keep, st.there, st.zz, st.zn, fun a m => ?_⟩, s2.store o2 ap i⟩ t1
    exact st.fn a (List.mem_append.mpr (flat_set F2 i fp a m))
end
end TT

set_option Elab.async false
set_option linter.all false
set_option maxRecDepth 100000
namespace TT
open PySem PySem.Spec PyProof.Rows L2
section
variable {X : Cx} {W : WX} {G : Bg} {c c1 c2 c3 : Nat} {a b e : Expr} {es : List Expr} {ta tb tc : RE} {pos : Pos}

/-! ### x in l, deep -/
def rInP (K : PySem.W.Frag) (neg : Bool) : R2 := fun x y H Q => ∃ d ds, Dp K H x d ∧ d.plain = true ∧ d.depth ≤ 64 ∧ (Dp K H y (.list ds) ∨ Dp K H y (.tuple ds)) ∧ PyData.plainAll ds = true ∧ Q (.bl (if neg then !ds.any fun z => PyData.eqv z d else ds.any fun z => PyData.eqv z d)) H
theorem op_inP (hu : X.A.units + 65 < cLine) : OpR X (compareOp .In) (rInP X.K false) := by
  intro pins s σ H x y v u Q I rx ry h
  obtain ⟨d, ds, hd, pd, dl, he, ps, q⟩ := h
  obtain ⟨as, r1⟩ := Dp.reads I d x v hd rx
  rcases he with he | he
  · obtain ⟨bs, r2⟩ := Dp.reads I (.list ds) y u he ry
    exact SeqAt.in_list_data r2 r1 ps pd (by omega) ⟨.bl _, H, I, rfl, q⟩
  · obtain ⟨bs, r2⟩ := Dp.reads I (.tuple ds) y u he ry
    exact SeqAt.in_tuple_data r2 r1 ps pd (by omega) ⟨.bl _, H, I, rfl, q⟩
theorem op_notInP (hu : X.A.units + 65 < cLine) : OpR X (compareOp .NotIn) (rInP X.K true) := by
  intro pins s σ H x y v u Q I rx ry h
  obtain ⟨d, ds, hd, pd, dl, he, ps, q⟩ := h
  obtain ⟨as, r1⟩ := Dp.reads I d x v hd rx
  rcases he with he | he
  · obtain ⟨bs, r2⟩ := Dp.reads I (.list ds) y u he ry
    exact SeqAt.notIn_list_data r2 r1 ps pd (by omega) ⟨.bl _, H, I, rfl, q⟩
  · obtain ⟨bs, r2⟩ := Dp.reads I (.tuple ds) y u he ry
    exact SeqAt.notIn_tuple_data r2 r1 ps pd (by omega) ⟨.bl _, H, I, rfl, q⟩
def inD (x : D) (ds : List D) : Bool := ds.any fun z => deq z x
def gIn (neg : Bool) (x y : D) (Q : D → Prop) : Prop := match y with
  | .lst _ ds => sm 64 x = true ∧ smL 64 ds = true ∧ Q (.bl (if neg then !inD x ds else inD x ds))
  | .tup ds => sm 64 x = true ∧ smL 64 ds = true ∧ Q (.bl (if neg then !inD x ds else inD x ds))
  | _ => False
theorem inD_py (x : D) (ds : List D) : ((pyL ds).any fun z => PyData.eqv z (py x)) = inD x ds := by
  unfold inD
  rw [pyL_map, List.any_map]
  rfl
theorem v_in (neg : Bool) : VOp2 X G (rInP X.K neg) (gIn neg) := by
  intro n Z H dx x fx dy y fy Q' Q g0 ox oy ap t q
  unfold gIn at t
  split at t
  · rename_i ow ds
    obtain ⟨s1, s2, t⟩ := t
    obtain ⟨a1, a2⟩ := sm_plain _ _ s1
    obtain ⟨b1, b2⟩ := smL_plain _ _ s2
    obtain ⟨p, vs, f, e1, hp, l1, sub, _⟩ := oy.lstOpen
    refine ⟨_, pyL ds, rp_dp _ _ _ _ s1 ox.rp, a1, a2, .inl ?_, b1, ?_⟩
    · rw [e1]; exact .lst (SqL.of hp) (rpL_dp _ _ _ _ s2 l1.rp)
    · rw [inD_py]
      exact vdone (d := .bl (if neg then !inD dx ds else inD dx ds)) g0 q ⟨rfl, rfl⟩ t
  · rename_i ds
    obtain ⟨s1, s2, t⟩ := t
    obtain ⟨a1, a2⟩ := sm_plain _ _ s1
    obtain ⟨b1, b2⟩ := smL_plain _ _ s2
    obtain ⟨p, vs, e1, hp, l1⟩ := oy.tupOpen
    refine ⟨_, pyL ds, rp_dp _ _ _ _ s1 ox.rp, a1, a2, .inr ?_, b1, ?_⟩
    · rw [e1]; exact .tup hp (rpL_dp _ _ _ _ s2 l1.rp)
    · rw [inD_py]
      exact vdone (d := .bl (if neg then !inD dx ds else inD dx ds)) g0 q ⟨rfl, rfl⟩ t
  · exact t.elim
theorem jt_in (hu : X.A.units + 65 < cLine) (ha : JE X W G c1 a ta) (hb : JE X W G c2 b tb) (hm : behindInMarks .In b = false := by with_unfolding_all rfl) : JT X W G (c1 + c2) (.Compare a [.In] [b] pos) (fun env Q E => r2 ta tb (gIn false) env (fun d => gBl d Q) E) := jt_cmp (op_inP hu) (v_in false) ha hb hm
theorem jt_notIn (hu : X.A.units + 65 < cLine) (ha : JE X W G c1 a ta) (hb : JE X W G c2 b tb) (hm : behindInMarks .NotIn b = false := by with_unfolding_all rfl) : JT X W G (c1 + c2) (.Compare a [.NotIn] [b] pos) (fun env Q E => r2 ta tb (gIn true) env (fun d => gBl d Q) E) := jt_cmp (op_notInP hu) (v_in true) ha hb hm
/-! ### a op b op' c -/
def r3 (ta tb tc : RE) (g g' : D → D → (D → Prop) → Prop) : RE := fun env Q E => ta env (fun x => tb env (fun y => g x y (fun k => gBl k (fun k => match k with
  | true => tc env (fun z => g' (frz y) z Q) E
  | false => Q (.bl false)))) E) E
theorem tChain_of {r r' : R2} {g g' : D → D → (D → Prop) → Prop} (hv : VOp2 X G r g) (hv' : VOp2 X G r' g') (σ : L2.St) (H : Hp) (Q : VK) (h : liE X W G (c1 + (c2 + c3)) (r3 ta tb tc g g') σ H Q) : tChain r r' (liE X W G c1 ta) (liE X W G c2 tb) (liE X W G c3 tc) σ H Q := by
  obtain ⟨n, Z, env, Q', E', p, w, t, q, x⟩ := h
  have pl := p.le
  refine ⟨n, Z, env, _, E', p.left, w, t, fun dx v fx Z1 H1 r1 o1 t1 => ?_, fun y cls da Z1 H1 r => x y cls da Z1 H1 r.up⟩
  refine ⟨n + c1, Z1, env, _, E', ⟨r1.gd, by omega⟩, w.step p.gd r1.nofp.st, t1, fun dy u fy Z2 H2 r2 o2 t2 => ?_, fun y cls da Z2 H2 r => x y cls da Z2 H2 ?_⟩
  · have o1' := o1.step r1.gd r2.st
    have ap := r1.apart o1 r2
    refine hv _ Z2 H2 dx v fx dy u fy _ _ r2.gd o1' o2 ap t2 fun d v3 fp Z3 H3 s3 g3 o3 q3 => ?_
    unfold gBl at q3
    split at q3
    · rename_i k
      refine ⟨k, o3.rp.1, ?_⟩
      cases k with
      | true =>
        rw [if_pos rfl]
        have r12 := r1.par r2
        -- the middle value is shared from here on
        have z3 : Stp G [] Z2 H2 (fx ++ fy) (fun a => Z3 a ∨ a ∈ fy) H3 [] := ⟨s3.keep, s3.there, fun a z => .inl (s3.zz a z), fun a z => z.elim (s3.zn a) fun m => .inr (.inl (List.mem_append_right _ m)), (fun _ m => (nomatch m))⟩
        have kpy : Rp X.K G Z3 H3 dy u fy := Rp.keep s3.zz _ _ _ (fun a o h cs => s3.keep a o h (by
          rcases cs with cs | cs | cs
          · exact r2.gd.notMut h cs
          · exact r2.gd.nz a cs
          · exact o2.nb a cs) (fun z => (nomatch z))) o2.rp
        have gz : Gd G (n + c1 + c2) (fun a => Z3 a ∨ a ∈ fy) H3 := ⟨g3.bag, fun a z => z.elim (g3.nz a) (o2.nb a), fun a z => z.elim (g3.tr a) fun m => let ⟨o, e, _⟩ := Rp.fpMut _ _ _ kpy a m; ⟨o, e⟩⟩
        have rz := r12.op z3 (by rw [← Nat.add_assoc]; exact gz)
        have oy : Ob X.K G (fun a => Z3 a ∨ a ∈ fy) H3 (frz dy) u [] := Ob.flat (Rp.frz (fun _ z => .inl z) _ _ _ (fun a m => .inr m) kpy)
        refine ⟨n + (c1 + c2), _, env, _, E', ⟨rz.gd, by omega⟩, w.step p.gd rz.st, q3, fun dz v4 f4 Z4 H4 r4 o4 t4 => ?_, fun y cls da Z4 H4 r4 => x y cls da Z4 H4 ?_⟩
        · refine hv' _ Z4 H4 (frz dy) u [] dz v4 f4 Q' Q r4.gd (oy.step rz.gd r4.st) o4 (fun a m => (nomatch m)) t4 fun d5 v5 f5 Z5 H5 s5 g5 o5 q5 => ?_
          have := (rz.par r4).op (f1 := [] ++ f4) s5 (by rw [← Nat.add_assoc]; exact g5)
          exact q d5 v5 f5 Z5 H5 ⟨this.st, this.gd.up (by omega)⟩ o5 q5
        · have := rz.then0 r4
          exact ⟨this.st, this.gd.up (by omega)⟩
      | false =>
        rw [if_neg Bool.false_ne_true]
        have := (r1.par r2).op s3 (by rw [← Nat.add_assoc]; exact g3)
        exact q (.bl false) _ [] Z3 H3 ⟨this.st.drop, this.gd.up (by omega)⟩ (Ob.flat ⟨rfl, rfl⟩) q3
    · exact q3.elim
  · have := r1.then0 r
    exact ⟨this.st, this.gd.up (by omega)⟩
theorem je_chain {op op' : CmpOp} {r r' : R2} {g g' : D → D → (D → Prop) → Prop} {d : Expr} (ho : OpR X (compareOp op) r) (ho' : OpR X (compareOp op') r') (hv : VOp2 X G r g) (hv' : VOp2 X G r' g') (ha : JE X W G c1 a ta) (hb : JE X W G c2 b tb) (hc : JE X W G c3 d tc)
    (hm : lastMarks [op, op'] [b, d] = false := by with_unfolding_all rfl) : JE X W G (c1 + (c2 + c3)) (.Compare a [op, op'] [b, d] pos) (r3 ta tb tc g g') := peImp (pe_chain ho ho' ha hb hc hm) (tChain_of hv hv')
theorem jt_chain {op op' : CmpOp} {r r' : R2} {g g' : D → D → (D → Prop) → Prop} {d : Expr} (ho : OpR X (compareOp op) r) (ho' : OpR X (compareOp op') r') (hv : VOp2 X G r g) (hv' : VOp2 X G r' g') (ha : JE X W G c1 a ta) (hb : JE X W G c2 b tb) (hc : JE X W G c3 d tc)
    (hm : lastMarks [op, op'] [b, d] = false := by with_unfolding_all rfl) : JT X W G (c1 + (c2 + c3)) (.Compare a [op, op'] [b, d] pos) (fun env Q E => r3 ta tb tc g g' env (fun d => gBl d Q) E) := ptImp (pt_chain ho ho' ha hb hc hm) fun σ H Q h => by
  obtain ⟨n, Z, env, Q', E', p, w, t, q, x⟩ := h
  refine tChain_of hv hv' σ H _ ⟨n, Z, env, _, E', p, w, t, fun d v fp Z1 H1 r1 o1 t1 => ?_, x⟩
  unfold gBl at t1
  split at t1
  · rename_i b
    exact ⟨b, o1.rp.1, q b Z1 H1 r1.nofp t1⟩
  · exact t1.elim
/-! ### min(t), max(t) of two ints in a tuple; of a list of ints -/
def gMm (f : Int → List Int → Int) : List D → (D → Prop) → Prop := fun ds Q => match ds with
  | [.tup (.int i :: r)] => ∃ ns : List Int, r = ns.map D.int ∧ Q (.int (f i ns))
  | [.lst _ (.int i :: r)] => ∃ ns : List Int, r = ns.map D.int ∧ Q (.int (f i ns))
  | _ => False
def rMmT (K : PySem.W.Frag) (f : Int → List Int → Int) : List V → Hp → VK → Prop := fun xs H Q => ∃ (a : Addr) (i : Int) (ns : List Int), xs = [.ref a] ∧ (SqT K H a ((i :: ns).map V.int) ∨ SqL K H a ((i :: ns).map V.int)) ∧ Q (.int (f i ns)) H
theorem dp_ints {K : PySem.W.Frag} {H : Hp} : ∀ ns : List Int, DpAll K H (ns.map V.int) (ns.map PyData.int)
  | [] => .nil
  | n :: r => .cons (.int n) (dp_ints r)
theorem depth_ints : ∀ ns : List Int, PyData.depthAll (ns.map PyData.int) = 0
  | [] => rfl
  | n :: r => by
    show max (PyData.depth (.int n)) (PyData.depthAll (r.map PyData.int)) = 0
    rw [depth_ints r]; rfl
theorem alike_ints (ns : List Int) : PySem.W.AlikeAll (ns.map PyData.int) := by
  refine ⟨fun x hx y hy => ?_, fun x hx => ?_⟩
  · obtain ⟨i, _, rfl⟩ := List.mem_map.mp hx
    obtain ⟨j, _, rfl⟩ := List.mem_map.mp hy
    rfl
  · obtain ⟨i, _, rfl⟩ := List.mem_map.mp hx
    exact (fun h => by cases h)
theorem reads_int {h : Heap} {v : Value} {i : Int} {bs : List Addr} (r : Reads h v (.int i) bs) : ∃ t, v = .int i t := by
  cases r with
  | int _ t => exact ⟨t, rfl⟩
theorem call_mmMin (hc : X.calm = true) (hu : X.A.units + 64 < cLine) : CallR X (.builtin "min") (rMmT X.K fun i ns => ns.foldl min i) := by
  intro pins s σ H xs us Q I rv h
  obtain ⟨a, i, ns, rfl, hs, q⟩ := h
  obtain ⟨u, rfl, rfl⟩ := vals1 rv
  have hh := I.ok.hd hc
  have e0 := PySem.W.minD_ints i ns
  have dz : PyData.depthAll (PyData.int i :: ns.map PyData.int) = 0 := depth_ints (i :: ns)
  rcases hs with hs | hs
  · obtain ⟨its, r, ht, hz⟩ := I.tuple hs
    obtain ⟨as, rd⟩ := Dp.readsAll I _ _ its (dp_ints (i :: ns)) r
    refine PySem.W.min_tuple_data hh ht rd (alike_ints (i :: ns)) (by omega) fun j v h' tk bs hv hr hk => ?_
    rw [e0] at hr
    obtain ⟨t, rfl⟩ := reads_int hr
    exact ⟨.int _, H, I.kept hk, ⟨t, rfl⟩, q⟩
  · obtain ⟨its, r, ht, hz⟩ := I.list hs
    obtain ⟨as, rd⟩ := Dp.readsAll I _ _ its (dp_ints (i :: ns)) r
    refine PySem.W.min_list_data hh ht.isList rd (alike_ints (i :: ns)) (by omega) fun j v h' tk bs hv hr hk => ?_
    rw [e0] at hr
    obtain ⟨t, rfl⟩ := reads_int hr
    exact ⟨.int _, H, I.kept hk, ⟨t, rfl⟩, q⟩
theorem call_mmMax (hc : X.calm = true) (hu : X.A.units + 64 < cLine) : CallR X (.builtin "max") (rMmT X.K fun i ns => ns.foldl max i) := by
  intro pins s σ H xs us Q I rv h
  obtain ⟨a, i, ns, rfl, hs, q⟩ := h
  obtain ⟨u, rfl, rfl⟩ := vals1 rv
  have hh := I.ok.hd hc
  have e0 := PySem.W.maxD_ints i ns
  have dz : PyData.depthAll (PyData.int i :: ns.map PyData.int) = 0 := depth_ints (i :: ns)
  rcases hs with hs | hs
  · obtain ⟨its, r, ht, hz⟩ := I.tuple hs
    obtain ⟨as, rd⟩ := Dp.readsAll I _ _ its (dp_ints (i :: ns)) r
    refine PySem.W.max_tuple_data hh ht rd (alike_ints (i :: ns)) (by omega) fun j v h' tk bs hv hr hk => ?_
    rw [e0] at hr
    obtain ⟨t, rfl⟩ := reads_int hr
    exact ⟨.int _, H, I.kept hk, ⟨t, rfl⟩, q⟩
  · obtain ⟨its, r, ht, hz⟩ := I.list hs
    obtain ⟨as, rd⟩ := Dp.readsAll I _ _ its (dp_ints (i :: ns)) r
    refine PySem.W.max_list_data hh ht.isList rd (alike_ints (i :: ns)) (by omega) fun j v h' tk bs hv hr hk => ?_
    rw [e0] at hr
    obtain ⟨t, rfl⟩ := reads_int hr
    exact ⟨.int _, H, I.kept hk, ⟨t, rfl⟩, q⟩
theorem rpL_ints {K : PySem.W.Frag} {Z : Zs} {H : Hp} : ∀ {ns : List Int} {vs : List V} {fp : List Addr}, RpL K G Z H (ns.map D.int) vs fp → vs = ns.map V.int
  | [], vs, fp, r => r.1
  | n :: ns, vs, fp, ⟨v, us, f1, f2, e, r1, r2, _⟩ => by
    have e1 : v = .int n := r1.1
    rw [e, e1, rpL_ints r2]; rfl
theorem v_mm (f : Int → List Int → Int) : VOpL X G (rMmT X.K f) (gMm f) := by
  intro n Z H ds xs fx Q' Q g0 o t q
  unfold gMm at t
  split at t
  · rename_i i r
    obtain ⟨ns, e, t⟩ := t
    subst e
    obtain ⟨v, e, o1⟩ := obL1 o
    obtain ⟨p, vs, e1, hp, l1⟩ := o1.tupOpen
    have ev := rpL_ints (ns := i :: ns) l1.rp
    subst ev
    exact ⟨p, i, ns, by rw [e, e1], .inl hp, vdone (d := .int (f i ns)) g0 q ⟨rfl, rfl⟩ t⟩
  · rename_i ow i r
    obtain ⟨ns, e, t⟩ := t
    subst e
    obtain ⟨v, e, o1⟩ := obL1 o
    obtain ⟨p, vs, f', e1, hp, l1, sub, _⟩ := o1.lstOpen
    have ev := rpL_ints (ns := i :: ns) l1.rp
    subst ev
    exact ⟨p, i, ns, by rw [e, e1], .inr (SqL.of hp), vdone (d := .int (f i ns)) g0 q ⟨rfl, rfl⟩ t⟩
  · exact t.elim
/-! ### repr of a bool, of None -/
def gRepr : List D → (D → Prop) → Prop := fun ds Q => match ds with
  | [.bl b] => Q (.str (if b then "True" else "False"))
  | _ => False
theorem call_reprB : CallR X (.builtin "repr") (fun xs H Q => ∃ b, xs = [.bl b] ∧ Q (.str (if b then "True" else "False")) H) := by
  intro pins s σ H xs us Q I r h
  obtain ⟨b, rfl, q⟩ := h
  obtain ⟨u, rfl, rfl⟩ := vals1 r
  exact PySem.P.repr_of_bool ⟨.str _, H, I.tok _, ⟨_, rfl⟩, q⟩
theorem v_repr : VOpL X G (fun xs H Q => ∃ b, xs = [.bl b] ∧ Q (.str (if b then "True" else "False")) H) gRepr := by
  intro n Z H ds xs fx Q' Q g0 o t q
  unfold gRepr at t
  split at t
  · rename_i b
    obtain ⟨v, e, o1⟩ := obL1 o
    have e1 : v = .bl b := o1.rp.1
    exact ⟨b, by rw [e, e1], vdone (d := .str (if b then "True" else "False")) g0 q ⟨rfl, rfl⟩ t⟩
  · exact t.elim
/-! ### keywords -/
def JK (X : Cx) (W : WX) (G : Bg) (c : Nat) (kws : List Keyword) (t : RA) : Prop := PK X kws (liA X W G c t)
theorem pkImp {X : Cx} {es : List Keyword} {t t' : TA} (h : PK X es t) (k : ∀ σ H Q, t' σ H Q → t σ H Q) : PK X es t' := ⟨fun pos pins s σ H Q I q => h.run pos pins s σ H Q I (k σ H Q q)⟩
theorem jk_nil : JK X W G 0 [] rNil := by
  refine pkImp pk_nil fun σ H Q h => ?_
  obtain ⟨n, Z, env, Q', E', p, w, t, q, x⟩ := h
  exact q [] [] [] Z H (Rs.zero p) ObL.nil t
theorem jk_cons {tr : RA} {nm : Option Str} {kpos : Pos} {kws : List Keyword} (ha : JE X W G c1 e ta) (hr : JK X W G c2 kws tr) : JK X W G (c1 + c2) (⟨nm, e, kpos⟩ :: kws) (rCons ta tr) := by
  refine pkImp (pk_cons ha hr) fun σ H Q h => ?_
  obtain ⟨n, Z, env, Q', E', p, w, t, q, x⟩ := h
  refine ⟨n, Z, env, _, E', p.left, w, t, fun dx v fx Z1 H1 r1 o1 t1 => ?_, fun y cls da Z1 H1 r => x y cls da Z1 H1 r.up⟩
  refine ⟨n + c1, Z1, env, _, E', p.right r1, w.step p.gd r1.nofp.st, t1, fun ds us fs Z2 H2 r2 o2 t2 => ?_, fun y cls da Z2 H2 r => x y cls da Z2 H2 (r1.then0 r)⟩
  exact q (dx :: ds) (v :: us) (fx ++ fs) Z2 H2 (r1.par r2) ((o1.step r1.gd r2.st).cons o2 (r1.apart o1 r2)) t2
def pmt {α : Type} (pm : List Nat) (ws : List α) : List α := pm.filterMap fun i => ws[i]?
theorem pmt_len {α : Type} {pm : List Nat} {ws : List α} (h : ∀ i ∈ pm, i < ws.length) : (pmt pm ws).length = pm.length := by
  induction pm with
  | nil => rfl
  | cons i r ih =>
    have hi := h i List.mem_cons_self
    unfold pmt
    rw [List.filterMap_cons, List.getElem?_eq_getElem hi]
    show (pmt r ws).length + 1 = r.length + 1
    rw [ih fun j hj => h j (List.mem_cons_of_mem _ hj)]
theorem pmt_vals {pm : List Nat} {vs : List V} {us : List Value} (r : Vals vs us) : Vals (pmt pm vs) (pmt pm us) := by
  induction pm with
  | nil => exact .nil
  | cons i l ih =>
    unfold pmt
    rw [List.filterMap_cons, List.filterMap_cons]
    cases e : vs[i]? with
    | none =>
      rw [r.none_of e]
      exact ih
    | some v =>
      obtain ⟨u, h1, h2⟩ := r.get e
      rw [h1]
      exact .cons h2 ih
theorem pmt_rp {K : PySem.W.Frag} {Z : Zs} {H : Hp} {pm : List Nat} {ds : List D} {vs : List V} (r : RpL K G Z H ds vs []) : RpL K G Z H (pmt pm ds) (pmt pm vs) [] := by
  induction pm with
  | nil => exact ⟨rfl, rfl⟩
  | cons i l ih =>
    unfold pmt
    rw [List.filterMap_cons, List.filterMap_cons]
    cases e : ds[i]? with
    | none =>
      have : vs[i]? = none := List.getElem?_eq_none_iff.mpr (by rw [r.len]; exact List.getElem?_eq_none_iff.mp e)
      rw [this]
      exact ih
    | some d =>
      obtain ⟨v, h1, h2⟩ := r.get0 e
      rw [h1]
      exact ⟨v, _, [], [], rfl, h2, ih, rfl⟩
/-- how keywords alone bind -/
def KB (K : PySem.W.Frag) (fd : FuncData) (ps ks : List Str) (pm : List Nat) : Prop := ∀ (s : Shared) (ws : List Value), K.In s.heap → ws.length = ks.length → BindsTo s fd ⟨[], ks.zip ws⟩ (ps.zip (pmt pm ws))
def rCallK (sp : Spt) (k : Nat) (pm : List Nat) (kk : Nat) (t : RA) : RE := fun env Q E => t env (fun ds => ds.length = kk ∧ (pmt pm ds).length = k ∧ sp (frzL (pmt pm ds)) Q E) E
theorem je_callK {x : Str} {p : Pos} {f : Addr} {fd : FuncData} {ps ks : List Str} {pm : List Nat} {k : Nat} {sp : Spt} {t : RA} {kws : List Keyword} (F : FnT X.prog X.w X.K X.mg X.base G c2 k f fd ps sp) (hr : RoomG k X.A) (tk : Takes X W) (hg : Gl X x) (hm : X.mg x = some (.ref f)) (hk : PySem.W.keepIn X.K (.ref f) = true) (hb : KB X.K fd ps ks pm)
    (ha : JK X W G c1 kws t) (hall : (backToKw pos (keywordEach kws X.env)).all (·.1.isSome) = true := by rfl) (hks : (backToKw pos (keywordEach kws X.env)).filterMap (·.1) = ks := by rfl) (hdb : (x == ("__debug__" : Str)) = false := by decide)
    (hpl : ((backTo pos (starEach [] X.env)).any (·.1) || (backToKw pos (keywordEach kws X.env)).any (·.1.isNone)) = false := by rfl) :
    JE X W G (c1 + c2) (.Call (.Name x p) [] kws pos) (rCallK sp ps.length pm ks.length t) := by
  refine ⟨fun pins s σ H Q I h => ?_⟩
  refine wpAny_Call_Name_kw (ld_glob I hg hm ?_ hdb)
  refine PySem.W.callWith_KW0 (h₀ := X.base) I.ok.mod.kin hk hall ?_ hpl
  obtain ⟨n, Z, env, Q', E', p, w, t, q, x⟩ := h
  have hrun := ha.run pos pins s σ H (fun vs H1 => ∃ zs : List D, vs.length = ks.length ∧ liS X.K X.mg G c2 ps.length sp (pmt pm vs) H1 Q (WE W σ)) I ⟨n, Z, env, _, E', p.left, w, t, fun ds vs fp Z1 H1 r1 o1 t1 => ?_, fun y cls da Z1 H1 r => x y cls da Z1 H1 r.up⟩
  · refine thn hrun fun ws s2 ⟨zs, H2, I2, rz, _, l1, q2⟩ => ⟨I2.kIn, ?_⟩
    rw [hks]
    have r2 := pmt_vals (pm := pm) rz
    have hl : (pmt pm ws).length = ps.length := by rw [← r2.length]; exact q2.len
    refine wpAny_call (codeAny_mono (run_g F hr (passAt tk σ) I2 (hb s2 ws I2.kIn (by rw [← rz.length]; exact l1)) r2 q2) fun y s' hy => ?_)
    match y, hy with
    | .error e, hy => exact hy
    | .ok (.ret u), hy => exact hy
    | .ok .next, hy => exact hy.elim
    | .ok .brk, hy => exact hy.elim
    | .ok .cont, hy => exact hy.elim
  · obtain ⟨g2, o2, s2⟩ := o1.share r1.gd
    have r2 := r1.op s2 g2
    refine ⟨ds, by rw [o1.rp.len]; exact t1.1, n + c1, _, pmt pm (frzL ds), Q', E', p.right r2, pmt_rp o2, ?_, ?_, fun d v f3 Z3 H3 r3 o3 q3 => ?_, fun y cls da Z3 H3 r3 xr e3 => ?_⟩
    · have e : pmt pm (frzL ds) = frzL (pmt pm ds) := by
        rw [frzL_map, frzL_map]
        unfold pmt
        rw [List.map_filterMap]
        congr 1
        funext i
        rw [List.getElem?_map]
      rw [e, frzL_map, List.length_map]; exact t1.2.1
    · have e : pmt pm (frzL ds) = frzL (pmt pm ds) := by
        rw [frzL_map, frzL_map]
        unfold pmt
        rw [List.map_filterMap]
        congr 1
        funext i
        rw [List.getElem?_map]
      rw [e]; exact t1.2.2
    · exact q d v f3 Z3 H3 (r2.par r3) o3 q3
    · exact x y cls da Z3 H3 (r2.then0 r3) xr e3
end
end TT

set_option Elab.async false
set_option linter.all false
set_option maxRecDepth 100000
namespace TT
open PySem PySem.Spec PyProof.Rows L2
section
variable {K : PySem.W.Frag} {G : Bg} {n : Nat} {Z : Zs} {H H' : Hp} {env : Ev} {σ : L2.St} {F : List (List Addr)}
theorem Stt.move {M : List Addr} (s : Stt K G n Z H env σ F) (k : ∀ a o, H a = some o → a ∉ M → H' a = some o) (th : ∀ a o, H a = some o → ∃ o', H' a = some o')
    (hM : ∀ a ∈ M, ¬ Z a ∧ a ∉ F.flatten ∧ ¬ inB G a ∧ Mut (H a)) : Stt K G n Z H' env σ F := by
  refine ⟨⟨?_, s.gd.nz, fun a z => ?_⟩, s.len, s.lenF, fun i d h => ?_, s.nd, s.nz, s.nb, fun a m => ?_⟩
  · refine s.gd.bag.keep fun a i => ?_
    obtain ⟨o, e⟩ := s.gd.bag.tracked i
    rw [k a o e fun m => (hM a m).2.2.1 i, e]
  · obtain ⟨o, e⟩ := s.gd.tr a z
    exact th a o e
  · obtain ⟨v, fp, e1, e2, r⟩ := s.at_ i d h
    refine ⟨v, fp, e1, e2, Rp.keep (fun _ z => z) d v fp (fun a o e cs => k a o e fun m => ?_) r⟩
    obtain ⟨h1, h2, h3, h4⟩ := hM a m
    rcases cs with cs | cs | cs
    · rw [e] at h4; exact cs h4
    · exact h1 cs
    · exact h2 (memF e2 a cs)
  · obtain ⟨o, e⟩ := s.trk a m
    have q := s.mt a m
    rw [k a o e fun m' => (hM a m').2.1 m]
    rw [e] at q
    exact q
/-- one slot's value is changed in its place -/
theorem Stt.mutate {i : Nat} {d d' : D} {v : V} {fp fp' M : List Addr} (s : Stt K G n Z H env σ F) (h : env[i]? = some (some d)) (hv : σ[i]? = some (some v)) (hf : F[i]? = some fp) (k : ∀ a o, H a = some o → a ∉ M → H' a = some o) (th : ∀ a o, H a = some o → ∃ o', H' a = some o')
    (hM : ∀ a ∈ M, a ∈ fp) (o : Ob K G Z H' d' v fp') (ap : ∀ a ∈ fp', ∀ b ∈ (F.set i []).flatten, a ≠ b) : Stt K G n Z H' (env.set i (some d')) σ (F.set i fp') := by
  obtain ⟨v0, fp0, e1, e2, o0, ap0, s1⟩ := s.take h
  rw [hv] at e1
  rw [hf] at e2
  cases e1; cases e2
  have s2 := s1.move (H' := H') (M := M) k th fun a m => ⟨o0.nz a (hM a m), fun z => ap0 a (hM a m) a z rfl, o0.nb a (hM a m), s.mt a (memF hf a (hM a m))⟩
  have s3 := s2.store o ap i
  rw [List.set_set, List.set_set] at s3
  have es : σ.set i (some v) = σ := by
    refine List.ext_getElem? fun j => ?_
    by_cases hj : i = j
    · subst hj
      rw [List.getElem?_set_self (List.getElem?_eq_some_iff.mp hv).1, hv]
    · rw [List.getElem?_set_ne hj]
  rw [es] at s3
  exact s3
end
section
variable {X : Cx} {W : WX} {G : Bg} {c c1 c2 c3 : Nat} {o e : Expr} {pos apos cpos : Pos} {t : RM}
def rAppS (i : Nat) (t : RM) : RS := fun P env => match env[i]? with
  | some (some (.lst true _)) => t env (fun d env' => match env'[i]? with
    | some (some (.lst true ds)) => ds.length < sizeLine ∧ P.nx (env'.set i (some (.lst true (ds ++ [d]))))
    | _ => False) (fun x env' => P.ex x env')
  | _ => False
theorem js_append {i : Nat} (ho : PE X o (tVar i)) (he : JM X W G c e t) (hs : swapsWith (.Call (.Attribute o "append" apos) [e] [] cpos) none pos.line X.env = pure false := by rfl)
    (hbase : attributeBase o "append" X.env (eval o X.env) = eval o X.env := by rfl) (hline : (apos.endLine == cpos.line) = true := by rfl) (hse : starEach [e] X.env = (false, eval e X.env) :: starEach [] X.env := by rfl) 
    (hfew : ((backTo cpos (starEach [e] X.env)).all (fun x => !x.1) && (backToKw cpos (keywordEach [] X.env)).all (fun x => x.1.isSome)
      && decide (([e] : List Expr).length + ([] : List Keyword).length + (if ([] : List Keyword).isEmpty then 0 else 1) < 30)) = true := by rfl) :
    JS X W G c (.Expr (.Call (.Attribute o "append" apos) [e] [] cpos) pos) (rAppS i t) := by
  refine psImp (ps_expr (pe_bm PySem.F.plainAttrs_list PySem.F.slot_list_append PySem.F.type_list_append mt_append ho (pa_cons he pa_nil hse) hbase hfew hline hse rfl) hs) fun Dn σ H h => ?_
  obtain ⟨n, Z, env, F, P, l, s, t, qn, qb, qc, qr, qx⟩ := h
  unfold rAppS at t
  split at t
  · rename_i ds0 h0
    obtain ⟨v0, fp0, e1, e2, rp0⟩ := s.at_ i _ h0
    obtain ⟨a, vs0, f0, ev, ha, _, _⟩ := rp0
    refine ⟨v0, e1, by rw [ev]; exact .inl ⟨rfl, _, SqL.of ha⟩, n, Z, env, F, _, _, l, s, t, fun d v fp Z1 env1 F1 H1 s1 o1 ap st t1 => ?_, fun x cls da Z1 env1 F1 H1 e1 xr t1 => qx x cls da Z1 env1 σ H1 F1 e1 xr t1⟩
    split at t1
    · rename_i ds h1
      obtain ⟨v1, fp1, e3, e4, rp1⟩ := s1.at_ i _ h1
      rw [e1] at e3
      cases e3
      obtain ⟨a1, vs, f, ev1, ha1, rl, ef⟩ := rp1
      rw [ev] at ev1
      cases ev1
      subst ef
      refine ⟨a, vs, v, ev, rfl, ha1, by rw [rl.len]; exact t1.1, ?_⟩
      have nd1 : (a :: f).Nodup := by
        obtain ⟨nd, _⟩ := flat_drop F1 i (a :: f) e4 s1.nd
        exact nd
      have na : a ∉ f := (List.nodup_cons.mp nd1).1
      have ma : a ∈ F1.flatten := memF e4 a List.mem_cons_self
      have nfp : a ∉ fp := fun m => ap a m a ma rfl
      have kU : ∀ b u, H1 b = some u → b ∉ [a] → (upd H1 a (.lst (vs ++ [v]))) b = some u := fun b u hb nb => by
        rw [upd_ne fun e => nb (by simp [e])]; exact hb
      have thU : ∀ b u, H1 b = some u → ∃ u', (upd H1 a (.lst (vs ++ [v]))) b = some u' := fun b u hb => by
        by_cases hba : b = a
        · subst hba; exact ⟨_, upd_same⟩
        · exact ⟨u, by rw [upd_ne hba]; exact hb⟩
      have nZ : ¬ Z1 a := s1.nz a ma
      have kR : ∀ (fx : List Addr), a ∉ fx → ∀ b u, H1 b = some u → (¬ Mut (some u) ∨ Z1 b ∨ b ∈ fx) → (upd H1 a (.lst (vs ++ [v]))) b = some u := fun fx hx b u hb cs => by
        refine kU b u hb fun m => ?_
        have : b = a := by simpa using m
        subst this
        rcases cs with cs | cs | cs
        · rw [ha1] at hb; cases hb; exact cs trivial
        · exact nZ cs
        · exact hx cs
      have sub1 : ∀ b ∈ (F1.set i []).flatten, b ∈ F1.flatten := fun b m => (flat_set F1 i [] b m).elim (fun z => (nomatch z)) id
      obtain ⟨_, ap1⟩ := flat_drop F1 i (a :: f) e4 s1.nd
      have oN : Ob X.K G Z1 (upd H1 a (.lst (vs ++ [v]))) (.lst true (ds ++ [d])) v0 (a :: (f ++ fp)) := by
        refine ⟨⟨a, vs ++ [v], f ++ fp, ev, upd_same, (RpL.keep (fun _ z => z) _ _ _ (kR f na) rl).app (RpL.one (Rp.keep (fun _ z => z) _ _ _ (kR fp nfp) o1.rp)), rfl⟩, ?_, fun b m => ?_, fun b m => ?_⟩
        · refine List.nodup_cons.mpr ⟨fun m => (List.mem_append.mp m).elim na nfp, List.nodup_append.mpr ⟨(List.nodup_cons.mp nd1).2, o1.nd, fun b hb b' hb' e => ap b' hb' b (memF e4 b (List.mem_cons_of_mem _ hb)) e.symm⟩⟩
        · rcases List.mem_cons.mp m with m | m
          · rw [m]; exact nZ
          · exact (List.mem_append.mp m).elim (fun m => s1.nz b (memF e4 b (List.mem_cons_of_mem _ m))) (o1.nz b)
        · rcases List.mem_cons.mp m with m | m
          · rw [m]; exact s1.nb a ma
          · exact (List.mem_append.mp m).elim (fun m => s1.nb b (memF e4 b (List.mem_cons_of_mem _ m))) (o1.nb b)
      have sN := s1.mutate (H' := upd H1 a (.lst (vs ++ [v]))) (M := [a]) h1 e1 e4 kU thU (fun b m => by
        have : b = a := by simpa using m
        rw [this]; exact List.mem_cons_self) oN (fun b hb b' hb' => by
        rcases List.mem_cons.mp hb with m | m
        · rw [m]; exact ap1 a List.mem_cons_self b' hb'
        · rcases List.mem_append.mp m with m | m
          · exact ap1 b (List.mem_cons_of_mem _ m) b' hb'
          · exact ap b m b' (sub1 b' hb'))
      refine qn Z1 _ σ _ _ ⟨⟨fun b u hb nb nA => ?_, fun b u hb => ?_, st.zz, st.zn, fun b m => ?_⟩, sN⟩ t1.2
      · have q1 := st.keep b u hb nb nA
        refine kU b u q1 fun m => ?_
        have : b = a := by simpa using m
        subst this
        rcases st.fn b (List.mem_append_right _ ma) with z | z
        · exact nA z
        · rw [hb] at z; cases z
      · obtain ⟨u', q1⟩ := st.there b u hb
        exact thU b u' q1
      · refine st.fn b ?_
        rcases flat_set F1 i (a :: (f ++ fp)) b m with m | m
        · rcases List.mem_cons.mp m with m | m
          · exact List.mem_append_right _ (by rw [m]; exact ma)
          · rcases List.mem_append.mp m with m | m
            · exact List.mem_append_right _ (memF e4 b (List.mem_cons_of_mem _ m))
            · exact List.mem_append_left _ m
        · exact List.mem_append_right _ m
    · exact t1.elim
  · exact t.elim
end
end TT

set_option Elab.async false
set_option linter.all false
set_option maxRecDepth 100000
namespace TT
open PySem PySem.Spec PyProof.Rows L2
/-! ### short names of what an operation asks -/
abbrev rK (d : D) : RE := fun _ Q _ => Q d
abbrev gSub : D → D → (D → Prop) → Prop := gII fun i j Q => Q (.int (i - j))
abbrev gMod : D → D → (D → Prop) → Prop := gII fun i j Q => 0 < j ∧ Q (.int (i % j))
abbrev gDiv : D → D → (D → Prop) → Prop := gII fun i j Q => CDivW i j ∧ Q (.int (i / j))
abbrev gPow : D → D → (D → Prop) → Prop := gII fun i j Q => CPow i j ∧ Q (.int (i ^ j.toNat))
abbrev gLt : D → D → (D → Prop) → Prop := gII fun i j Q => Q (.bl (decide (i < j)))
abbrev gLe : D → D → (D → Prop) → Prop := gII fun i j Q => Q (.bl (decide (i ≤ j)))
abbrev gGt : D → D → (D → Prop) → Prop := gII fun i j Q => Q (.bl (decide (j < i)))
abbrev gGe : D → D → (D → Prop) → Prop := gII fun i j Q => Q (.bl (decide (j ≤ i)))
abbrev gNeg : D → (D → Prop) → Prop := fun x Q => match x with
  | .int i => Q (.int (-i))
  | _ => False
abbrev rTupE (ta : RA) : RE := fun env Q E => ta env (fun ds => ds.length ≤ sizeLine ∧ Q (.tup ds)) E
abbrev rLstE (ta : RA) : RE := fun env Q E => ta env (fun ds => ds.length ≤ sizeLine ∧ Q (.lst true ds)) E
abbrev rtC (t : RE) : RT := fun env Q E => t env (fun d => gBl d Q) E
abbrev riAny (te : RE) : RI := fun env Q E => te env (fun d => iAny d Q) E
abbrev riR1 (ta : RA) : RI := fun env Q E => ta env (fun ds => iRg1 ds Q) E
abbrev riR2 (ta : RA) : RI := fun env Q E => ta env (fun ds => iRg2 ds Q) E
abbrev gMin2 : List D → (D → Prop) → Prop := gII1 fun i j => .int (min i j)
abbrev gMax2 : List D → (D → Prop) → Prop := gII1 fun i j => .int (max i j)
abbrev gMinL : List D → (D → Prop) → Prop := gMm fun i ns => ns.foldl min i
abbrev gMaxL : List D → (D → Prop) → Prop := gMm fun i ns => ns.foldl max i
abbrev rNever : RS := fun _ _ => False
abbrev rBrk : RS := fun P env => P.bk env
abbrev rCont : RS := fun P env => P.ct env
theorem hu65 {k : Nat} {A : Around} (r : RoomG k A) : A.units + 65 < cLine := by have := r.un; omega
theorem v_ltI {X : Cx} {G : Bg} : VOp2 X G (rI0 fun i j => .bl (decide (i < j))) gLt := v_rI0 fun _ _ _ _ _ => ⟨rfl, rfl⟩
theorem v_leI {X : Cx} {G : Bg} : VOp2 X G (rI0 fun i j => .bl (decide (i ≤ j))) gLe := v_rI0 fun _ _ _ _ _ => ⟨rfl, rfl⟩
theorem v_gtI {X : Cx} {G : Bg} : VOp2 X G (rI0 fun i j => .bl (decide (j < i))) gGt := v_rI0 fun _ _ _ _ _ => ⟨rfl, rfl⟩
theorem v_geI {X : Cx} {G : Bg} : VOp2 X G (rI0 fun i j => .bl (decide (j ≤ i))) gGe := v_rI0 fun _ _ _ _ _ => ⟨rfl, rfl⟩
theorem bt_len : bootBuiltins "len" = some (.builtin "len") := by decide +kernel
theorem bt_min : bootBuiltins "min" = some (.builtin "min") := by decide +kernel
theorem bt_max : bootBuiltins "max" = some (.builtin "max") := by decide +kernel
theorem bt_abs : bootBuiltins "abs" = some (.builtin "abs") := by decide +kernel
theorem bt_repr : bootBuiltins "repr" = some (.builtin "repr") := by decide +kernel
theorem bt_sum : bootBuiltins "sum" = some (.builtin "sum") := by decide +kernel
theorem bt_isinstance : bootBuiltins "isinstance" = some (.builtin "isinstance") := by decide +kernel
theorem bt_int : bootBuiltins "int" = some (.type "int") := by decide +kernel
theorem bt_list : bootBuiltins "list" = some (.type "list") := by decide +kernel
theorem bt_tuple : bootBuiltins "tuple" = some (.type "tuple") := by decide +kernel
theorem bt_str : bootBuiltins "str" = some (.type "str") := by decide +kernel
theorem bt_range : bootBuiltins "range" = some (.type "range") := by decide +kernel
theorem bt_dict : bootBuiltins "dict" = some (.type "dict") := by decide +kernel
theorem bt_set : bootBuiltins "set" = some (.type "set") := by decide +kernel
theorem bt_zip : bootBuiltins "zip" = some (.type "zip") := by decide +kernel
theorem bt_enumerate : bootBuiltins "enumerate" = some (.type "enumerate") := by decide +kernel
/-! ### a def of the program's own, by its name -/
def CalT (P : Program) (w : World) (K : PySem.W.Frag) (mg : Str → Option Value) (base : Heap) (G : Bg) (x : Str) (c k : Nat) (ps : List Str) (sp : Spt) : Prop :=
  ∃ f fd, FnT P w K mg base G c k f fd ps sp ∧ mg x = some (.ref f) ∧ PySem.W.keepIn K (.ref f) = true ∧ Binds K fd ps []
def CalK (P : Program) (w : World) (K : PySem.W.Frag) (mg : Str → Option Value) (base : Heap) (G : Bg) (x : Str) (c k : Nat) (ps ks : List Str) (pm : List Nat) (sp : Spt) : Prop :=
  ∃ f fd, FnT P w K mg base G c k f fd ps sp ∧ mg x = some (.ref f) ∧ PySem.W.keepIn K (.ref f) = true ∧ KB K fd ps ks pm
section
variable {X : Cx} {W : WX} {G : Bg} {c1 c2 : Nat} {e : Expr} {es : List Expr} {pos p : Pos}
theorem je_callT {x : Str} {ps : List Str} {k j : Nat} {sp : Spt} {t : RA} (C : CalT X.prog X.w X.K X.mg X.base G x c2 k ps sp) (hr : RoomG j X.A) (hj : k ≤ j) (tk : Takes X W) (hg : Gl X x) (ha : JA X W G c1 (e :: es) t)
    (hdb : (x == ("__debug__" : Str)) = false := by decide) (he : starEach (e :: es) X.env = (false, eval e X.env) :: starEach es X.env := by rfl) (hpl : (backTo pos (starEach es X.env)).any (·.1) = false := by rfl) :
    JE X W G (c1 + c2) (.Call (.Name x p) (e :: es) [] pos) (rCall sp ps.length t) := by
  obtain ⟨f, fd, F, hm, hk, hb⟩ := C
  exact je_call F (hr.mono hj) tk hg hm hk hb ha hdb he hpl
theorem je_callKT {x : Str} {ps ks : List Str} {pm : List Nat} {k j : Nat} {sp : Spt} {t : RA} {kws : List Keyword} (C : CalK X.prog X.w X.K X.mg X.base G x c2 k ps ks pm sp) (hr : RoomG j X.A) (hj : k ≤ j) (tk : Takes X W) (hg : Gl X x) (ha : JK X W G c1 kws t)
    (hall : (backToKw pos (keywordEach kws X.env)).all (·.1.isSome) = true := by rfl) (hks : (backToKw pos (keywordEach kws X.env)).filterMap (·.1) = ks := by rfl) (hdb : (x == ("__debug__" : Str)) = false := by decide)
    (hpl : ((backTo pos (starEach [] X.env)).any (·.1) || (backToKw pos (keywordEach kws X.env)).any (·.1.isNone)) = false := by rfl) :
    JE X W G (c1 + c2) (.Call (.Name x p) [] kws pos) (rCallK sp ps.length pm ks.length t) := by
  obtain ⟨f, fd, F, hm, hk, hb⟩ := C
  exact je_callK F (hr.mono hj) tk hg hm hk hb ha hall hks hdb hpl
end
end TT

set_option Elab.async false
set_option linter.all false
set_option maxRecDepth 100000
namespace TT
open PySem PySem.Spec PyProof.Rows L2
/-! ### the bag's own reads and stores -/
theorem s_gl : ¬ Str.ofString "great" = Str.ofString "left" := by decide
theorem s_gt : ¬ Str.ofString "great" = Str.ofString "turn" := by decide
theorem s_gb : ¬ Str.ofString "great" = Str.ofString "blend" := by decide
theorem s_lt : ¬ Str.ofString "left" = Str.ofString "turn" := by decide
theorem s_lb : ¬ Str.ofString "left" = Str.ofString "blend" := by decide
theorem s_tl : ¬ Str.ofString "turn" = Str.ofString "left" := by decide
theorem s_tb : ¬ Str.ofString "turn" = Str.ofString "blend" := by decide
theorem s_bl : ¬ Str.ofString "blend" = Str.ofString "left" := by decide
theorem s_bt : ¬ Str.ofString "blend" = Str.ofString "turn" := by decide
theorem bl_great (q : Addr) (l t m : Int) : valV (bagL q l t m) (Sum.inr "great") = some (V.ref q) := by
  unfold valV bagL
  simp [List.find?]
theorem bl_left (q : Addr) (l t m : Int) : valV (bagL q l t m) (Sum.inr "left") = some (V.int l) := by
  unfold valV bagL
  simp [List.find?, s_gl]
theorem bl_turn (q : Addr) (l t m : Int) : valV (bagL q l t m) (Sum.inr "turn") = some (V.int t) := by
  unfold valV bagL
  simp [List.find?, s_gt, s_lt]
theorem bl_blend (q : Addr) (l t m : Int) : valV (bagL q l t m) (Sum.inr "blend") = some (V.int m) := by
  unfold valV bagL
  simp [List.find?, s_gb, s_lb, s_tb]
theorem bp_left (q : Addr) (l t m l' : Int) : putK (bagL q l t m) (Sum.inr "left") (V.int l') = bagL q l' t m := by
  unfold putK bagL
  simp [s_gl, s_tl, s_bl]
theorem bp_turn (q : Addr) (l t m t' : Int) : putK (bagL q l t m) (Sum.inr "turn") (V.int t') = bagL q l t' m := by
  unfold putK bagL
  simp [s_gt, s_lt, s_bt]
section
variable {H : Hp} {b q : Addr} {l t m : Int}
theorem dg_great (e : H b = some (.dK (bagL q l t m))) : DGet H b (.str "great") (some (.ref q)) := by
  have h := DGet.k (k := Sum.inr "great") e
  rw [bl_great] at h; exact h
theorem dg_left (e : H b = some (.dK (bagL q l t m))) : DGet H b (.str "left") (some (.int l)) := by
  have h := DGet.k (k := Sum.inr "left") e
  rw [bl_left] at h; exact h
theorem dg_turn (e : H b = some (.dK (bagL q l t m))) : DGet H b (.str "turn") (some (.int t)) := by
  have h := DGet.k (k := Sum.inr "turn") e
  rw [bl_turn] at h; exact h
theorem dg_blend (e : H b = some (.dK (bagL q l t m))) : DGet H b (.str "blend") (some (.int m)) := by
  have h := DGet.k (k := Sum.inr "blend") e
  rw [bl_blend] at h; exact h
theorem dp_left {l' : Int} (e : H b = some (.dK (bagL q l t m))) : DPut H b (.str "left") (.int l') (upd H b (.dK (bagL q l' t m))) := by
  have h := DPut.k (k := Sum.inr "left") (v := .int l') e (by show 4 < sizeLine; decide)
  rw [bp_left] at h; exact h
theorem dp_turn {t' : Int} (e : H b = some (.dK (bagL q l t m))) : DPut H b (.str "turn") (.int t') (upd H b (.dK (bagL q l t' m))) := by
  have h := DPut.k (k := Sum.inr "turn") (v := .int t') e (by show 4 < sizeLine; decide)
  rw [bp_turn] at h; exact h
end
/-- a draw: any number below -/
def spDraw : Spt := fun ds Q _ => ∃ many : Int, ds = [.bag, .int many] ∧ 0 < many ∧ many < 2 ^ 200 ∧ ∀ d : Int, 0 ≤ d → d < many → Q (.int d)
theorem draw_end {K : PySem.W.Frag} {k : BK} {b q : Addr} {n : Nat} {Z : Zs} {H H' : Hp} {Q' : D → Prop} {Q : VK} {d : Int} (g : Gd (some (k, b, q)) n Z H) (kp : ∀ a, a ≠ b → a ≠ q → H' a = H a) (bg : BagOk (some (k, b, q)) (n + 1) H')
    (c : ∀ d v fp Z' H', Rs K (some (k, b, q)) n 1 Z H Z' H' fp → Ob K (some (k, b, q)) Z' H' d v fp → Q' d → Q v H') (h : Q' (.int d)) : Q (.int d) H' := by
  have k2 : ∀ a o, H a = some o → ¬ inB (some (k, b, q)) a → H' a = some o := fun a o e nb => by
    rw [kp a (fun z => nb (.inl z)) (fun z => nb (.inr z))]; exact e
  have th : ∀ a o, H a = some o → ∃ o', H' a = some o' := fun a o e => by
    by_cases hb : inB (some (k, b, q)) a
    · exact bg.tracked hb
    · exact ⟨o, k2 a o e hb⟩
  refine c (.int d) _ [] Z H' ⟨⟨fun a o e nb _ => k2 a o e nb, th, fun _ z => z, fun _ z => .inl z, (fun _ m => (nomatch m))⟩, ⟨bg, g.nz, fun a z => ?_⟩⟩ (Ob.flat ⟨rfl, rfl⟩) h
  obtain ⟨o, e⟩ := g.tr a z
  exact th a o e
end TT

set_option Elab.async false
set_option linter.all false
set_option maxRecDepth 100000
namespace TT
open PySem PySem.Spec PyProof.Rows L2
theorem atI_0 {α : Type} (x : α) (xs : List α) : atI (x :: xs) 0 = some x := atI_nat (j := 0) rfl
theorem atI_1 {α : Type} (x y : α) (xs : List α) : atI (x :: y :: xs) 1 = some y := atI_nat (j := 1) rfl
theorem atI_2 {α : Type} (x y z : α) (xs : List α) : atI (x :: y :: z :: xs) 2 = some z := atI_nat (j := 2) rfl
theorem atI_m1 {α : Type} (x : α) (xs : List α) (y : α) (h : (x :: xs).getLast? = some y) : atI (x :: xs) (-1) = some y := by
  have e : x :: xs = (x :: xs).dropLast ++ [y] := by
    rw [List.getLast?_eq_some_iff] at h
    obtain ⟨ys, h⟩ := h
    rw [h, List.dropLast_concat]
  rw [e]
  exact atI_last _ _
theorem deq_int (i j : Int) : deq (.int i) (.int j) = decide (i = j) := rfl
theorem deq_bl (i j : Bool) : deq (.bl i) (.bl j) = (i == j) := rfl
theorem deq_str (i j : Str) : deq (.str i) (.str j) = (i == j) := rfl
theorem deq_non : deq .non .non = true := rfl
theorem deq_non_int (i : Int) : deq .non (.int i) = false := rfl
theorem deq_non_str (i : Str) : deq .non (.str i) = false := rfl
theorem deq_str_non (i : Str) : deq (.str i) .non = false := rfl
theorem deq_non_bl (i : Bool) : deq .non (.bl i) = false := rfl
theorem deq_bl_non (i : Bool) : deq (.bl i) .non = false := rfl
theorem deqL_nil : PyData.eqvAll (pyL []) (pyL []) = true := rfl
theorem deq_tup2 (a b c d : D) : deq (.tup [a, b]) (.tup [c, d]) = (deq a c && deq b d) := by
  show (PyData.eqv (py a) (py c) && (PyData.eqv (py b) (py d) && true)) = _
  rw [Bool.and_true]; rfl
/-- a loop over a list by what holds of it; K is what follows -/
theorem rForL_inv {g : RG} {t : RS} {items : List D} {P : Pst} {env : Ev} (I : Nat → Ev → Prop) (h0 : I 0 env)
    (hs : ∀ i d env (K : Ev → Prop), items[i]? = some d → I i env → (∀ env', I (i + 1) env' → K env') → g d env fun env1 => t { nx := K, rt := P.rt, bk := P.nx, ct := K, ex := P.ex } env1)
    (he : ∀ env, I items.length env → P.nx env) : rForL g t items P env := by
  have go : ∀ (k : Nat) (ds : List D) (i : Nat) (env : Ev), ds = items.drop i → ds.length = k → i ≤ items.length → I i env → rForL g t ds P env := by
    intro k
    induction k with
    | zero =>
      intro ds i env e hl hi h
      have : ds = [] := List.length_eq_zero_iff.mp hl
      subst this
      have hi2 : i = items.length := by
        have := congrArg List.length e
        rw [List.length_drop] at this
        simp at this
        omega
      subst hi2
      exact he env h
    | succ k ih =>
      intro ds i env e hl hi h
      have hlt : i < items.length := by
        have := congrArg List.length e
        rw [List.length_drop] at this
        omega
      rw [List.drop_eq_getElem_cons hlt] at e
      subst e
      exact hs i _ env _ (List.getElem?_eq_getElem hlt) h fun env' h' => ih _ (i + 1) env' rfl (by rw [List.length_drop]; have := List.length_drop (i := i) (l := items); rw [List.length_cons, List.length_drop] at hl; omega) hlt h'
  exact go _ items 0 env rfl rfl (Nat.zero_le _) h0
theorem rng_at {lo : Int} {n i : Nat} {d : D} (h : (rngD lo n)[i]? = some d) : d = .int (lo + i) ∧ i < n := by
  unfold rngD at h
  rw [List.getElem?_map] at h
  cases q : (List.range n)[i]? with
  | none => rw [q] at h; cases h
  | some j =>
    rw [q] at h
    obtain ⟨h1, h2⟩ := List.getElem?_eq_some_iff.mp q
    rw [List.getElem_range] at h2
    rw [List.length_range] at h1
    subst h2
    exact ⟨(Option.some.inj h).symm, h1⟩
end TT

set_option Elab.async false
set_option linter.all false
set_option maxRecDepth 100000
set_option maxHeartbeats 2000000
namespace PySem
namespace OwnX
open PySem.W PySem.Calls PyProof.Rows PySem.HandSPX
/-! ### the text of __init__ -/
def iA (p1 p2 : Pos) : Arguments := { posonlyargs := [], args := [{ arg := "self", annotation := none, pos := p1 }, { arg := "value", annotation := none, pos := p2 }], vararg := none, kwonlyargs := [], kw_defaults := [], kwarg := none, defaults := [] }
def iB (q1 q2 q3 q4 : Pos) : List Stmt := [.Assign [.Attribute (.Name "self" q1) "value" q2] (.Name "value" q3) q4]
def iS : Scope := { kind := .function, names := [(PySem.Str.ofString "self", .local), (PySem.Str.ofString "value", .local)], isGenerator := false, isCoroutine := false, more := [] }
/-- what the written part says of Own, at C, and of its __init__, at fI -/
structure OwnTxt (x qn : Str) (K : Frag) (mg : Str → Option Value) (C fI : Addr) : Prop where
  gC : mg x = some (.ref C)
  cls : ∃ nm q N bs bm sn sub ab col dd k0 k1 k2 k3 k5, K.lookup C = some (excClassObj nm q C N bs bm true sn sub ab col dd k0 k1 k2 k3 k5 "ValueError.__new__") ∧ refsVE bm = true
  sa : findIn K (.ref C) "__setattr__" = some (some (.builtin "object.__setattr__"))
  ga : findIn K (.ref C) "__getattribute__" = some (some (.builtin "BaseException.__getattribute__"))
  gg : findIn K (.ref C) "__getattr__" = some none
  noN : findIn K (.ref C) "value" = some none
  iC : findIn K (.ref C) "__init__" = some (some (.ref fI))
  tC : typeIn K (.ref fI) = some (.type "function")
  kC : keepIn K (.ref C) = true
  exC : subIn K (.ref C) (.type "BaseException") = some true
  tyC : typeIn K (.ref C) = some (.type "type")
  hdC : hasDictIn K C = true
  te : exmOne K (.ref C) (.ref C) = some true
  fn : ∃ (oc : Value) (od : Option Addr) (doc pm : Value) (an : Option Addr) (cdv ct : Value) (osl : Array (Option Value)) (p1 p2 q1 q2 q3 q4 : Pos),
    K.lookup fI = some ⟨oc, od, .func (fnOf "__init__" qn (iA p1 p2) (iB q1 q2 q3 q4) iS .none .none doc pm an cdv ct), osl⟩ ∧ codeIn K cdv qn = true
theorem one_size (v : Value) : [v].length ≤ sizeLine := by
  rw [sizeLine_eq]
  exact (by decide : 1 ≤ 16777216)
theorem kept_but {K : Frag} {h h' : Heap} {x : Addr} (X : K.In h) (hx : K.lookup x = none) (k : ∀ b o, b ≠ x → h.get? b = some o → h'.get? b = some o) : K.In h' := fun a o e =>
  k a o (fun z => by rw [z, hx] at e; cases e) (X a o e)
theorem ldC {M : Model} {s : Shared} {name : Str} {scope : Scope} {L a : Addr} {cd : Value} {m : Str → Option Value} {x : Str} {pos : Pos} {v : Value} {Q : Value → Shared → Prop} {A : Around} {E : Value → Shared → Prop} (hn : s.heap.Ns L m) (hv : m x = some v) (h : Q v s)
    (hk : scope.kind = .function := by rfl) (hl : (envOfC name scope L a cd).kindOf x = some .local := by rfl) (hd : (x == ("__debug__" : Str)) = false := by decide) :
    wpAny M A (eval (.Name x pos) (envOfC name scope L a cd)) Q E s := wpAny_Name (wpAny_loadName_local hk hl hn hv h) hd
/-- what __init__ leaves of a fresh exception at x -/
structure InitEnd (h h' : Heap) (x C dx t1 : Addr) (v : Value) : Prop where
  keep : ∀ b o, b ≠ x → h.get? b = some o → h'.get? b = some o
  obj : h'.get? x = some { cls := .ref C, dict := some dx, data := .fields #[.ref t1, .none, .none, .none, .bool false, .none] }
  dbig : h.objs.size ≤ dx
  dne : dx ≠ x
  ns : h'.Ns1 dx (fun y => if y = "value" then some v else none)
/-- a made Own -/
structure OwnMade (h h' : Heap) (e C d : Addr) (v : Value) : Prop where
  keep : ∀ b o, h.get? b = some o → h'.get? b = some o
  new : h.objs.size ≤ e
  obj : ∃ oe vs, h'.get? e = some oe ∧ oe.cls = .ref C ∧ oe.dict = some d ∧ oe.data = .fields vs ∧ vs[1]? = some .none
  dbig : h.objs.size ≤ d
  elt : e < d
  dne : d ≠ e
  ns : h'.Ns1 d (fun y => if y = "value" then some v else none)
section
variable {prog : Program} {w : World} {A : Around} {E : Value → Shared → Prop} {R : Result → Shared → Prop} {s : Shared} {K : Frag} {mg : Str → Option Value} {C fI : Addr} {cx qn : Str}
theorem own_init (T : OwnTxt cx qn K mg C fI) {x t0 : Addr} {v : Value} (X : K.In s.heap) (hlim : s.heap.NoLimit) (hx : s.heap.get? x = some (excO C t0)) (hnx : K.lookup x = none) (hroom : A.depth < recursionLimit)
    (hq : ∀ h' tk dx, InitEnd s.heap h' x C dx t0 v → R (.ok (.ret .none)) { s with heap := h', toks := tk }) :
    codeAny (model prog w) A (.call (.ref fI) ⟨[.ref x, v], []⟩) R s := by
  obtain ⟨oc, od, doc, pm, an, cdv, ct, osl, p1, p2, q1, q2, q3, q4, ho, hcd⟩ := T.fn
  obtain ⟨nm, q, N, bs, bm, sn, sub, ab, col, dd, k0, k1, k2, k3, k5, hC, hbm⟩ := T.cls
  have hcl : clsIn K C = some { name := nm, bases := bs, mro := .ref C :: bm, ns := N, qualname := q, hasDict := true, slotNames := sn, subclasses := sub, abstract := ab, collection := col, hasDel := false } := by unfold clsIn; rw [hC] <;> rfl
  refine Att.call_fn (binds := [("self", .ref x), ("value", v)]) X hlim ho hcd hroom (BindsTo.of_eq (by first | rfl | with_unfolding_all rfl)) (by first | rfl | decide | with_unfolding_all rfl) (fun s₁ IC => ?_) rfl rfl rfl
  obtain ⟨h₁, tk₁, rfl⟩ := IC.toInCall.same
  have k : ∀ b o, s.heap.get? b = some o → h₁.get? b = some o := IC.toInCall.keep
  have hn := IC.toInCall.ns
  have hxL : s.heap.objs.size ≠ x := Nat.ne_of_gt (Heap.lt_size hx)
  have X₁ : K.In h₁ := X.keeps k
  have hx₁ := k _ _ hx
  -- self.by = by
  show wpAny _ _ (execs _ _) _ _ _
  refine wpAny_execs_cons (plainObj_wpAny_Assign_Attribute ?_)
  refine ldC (v := v) hn (by first | rfl | with_unfolding_all rfl | kernel_rfl) (ldC (v := .ref x) hn (by first | rfl | with_unfolding_all rfl | kernel_rfl) ?_)
  refine set_plain X₁ (ox := excO C t0) (od := none) ⟨hx₁, rfl, rfl, trivial⟩ T.sa ?_
  refine exc_osa X₁ hx₁ hcl (show refsVE (.ref C :: bm) = true from hbm) rfl T.noN (fun h₃ tk₃ dx k₃ dn dne hx₃ hn₃ => ?_)
  show wpAny _ _ (execs _ _) _ _ _
  have z : s.heap.objs.size < h₁.objs.size := hn.lt
  exact wpAny_execs_nil (hq h₃ tk₃ dx ⟨fun b o hb e => k₃ b o hb (k b o e), hx₃, Nat.le_of_lt (Nat.lt_of_lt_of_le z dn), dne, hn₃⟩)
theorem own_made (T : OwnTxt cx qn K mg C fI) {v : Value} (X : K.In s.heap) (hlim : s.heap.NoLimit) (hroom : A.depth + 1 < recursionLimit)
    (hq : ∀ h' tk e d, OwnMade s.heap h' e C d v → R (.ok (.ret (.ref e))) { s with heap := h', toks := tk }) :
    codeAny (model prog w) A (.call (.ref C) ⟨[v], []⟩) R s := by
  obtain ⟨nm, q, N, bs, bm, sn, sub, ab, col, dd, k0, k1, k2, k3, k5, hC, hbm⟩ := T.cls
  obtain ⟨hp, g, dr, tk, os⟩ := s
  have k : ∀ b o, hp.get? b = some o → ((hp.push (kdv_tup [v])).push (excO C hp.objs.size)).get? b = some o := fun b o e => Heap.get?_push_of_some _ (Heap.get?_push_of_some _ e)
  have hget : ((hp.push (kdv_tup [v])).push (excO C hp.objs.size)).get? (hp.objs.size + 1) = some (excO C hp.objs.size) := by heap_get
  have hnx : K.lookup (hp.objs.size + 1) = none := by
    cases e : K.lookup (hp.objs.size + 1) with
    | none => rfl
    | some o =>
      have z : hp.get? (hp.objs.size + 1) = some o := X _ _ e
      exact absurd (Nat.lt_of_succ_lt (Heap.lt_size z)) (Nat.lt_irrefl _)
  refine call_own F.excBase_ValueError (fun X => refsVE_contains X bm hbm) (X _ _ hC) (looks_findIn X T.iC) (fun self => bind_fn X self T.tC) (one_size v) ?_
  refine own_init (s := ⟨(hp.push (kdv_tup [v])).push (excO C hp.objs.size), g, dr, tk, os⟩) T (X.keeps k) (hlim.keeps k) hget hnx ?_ fun h' tk' dx ⟨k', hx, dn, dne, hns⟩ => ?_
  · show A.depth + 1 < recursionLimit
    exact hroom
  · have old : ∀ b o, hp.get? b = some o → h'.get? b = some o := fun b o e => k' b o (Nat.ne_of_lt (Nat.lt_succ_of_lt (Heap.lt_size e))) (k b o e)
    have z : hp.objs.size + 1 + 1 ≤ dx := by
      first
        | (simpa only [Heap.size_push] using dn)
        | exact dn
        | (have q := dn; rw [Heap.size_push, Heap.size_push] at q; exact q)
    exact ⟨rfl, hq h' tk' (hp.objs.size + 1) dx ⟨old, Nat.le_succ _, ⟨_, _, hx, rfl, rfl, rfl, rfl⟩, Nat.le_trans (Nat.le_trans (Nat.le_succ _) (Nat.le_succ _)) z, z, dne, hns⟩⟩
end
end OwnX
end PySem
namespace L2
open PySem PySem.Spec PyProof.Rows
theorem relO_low {v : V} {v' : Value} (r : RelV v v') (f : Str) : RelO (List.lookup f [(("value" : Str), v)]) (if f = "value" then some v' else none) := by
  by_cases hw : f = "value"
  · subst hw
    rw [if_pos rfl]
    have q : List.lookup ("value" : Str) [(("value" : Str), v)] = some v := by simp [List.lookup]
    rw [q]
    exact r
  · rw [if_neg hw]
    have qw : (f == ("value" : Str)) = false := by simpa using hw
    have q2 : List.lookup f [(("value" : Str), v)] = none := by simp [List.lookup, qw]
    rw [q2]
    trivial
section
variable {X : Cx} {C fI : Addr} {cx qn : Str}
/-- Own(e) -/
def tMkOwn (C : Addr) (ta : TA) : St → Hp → XK → Prop := fun σ H Q => ta σ H fun vs H1 => ∃ v, vs = [v] ∧ ∀ d, H1 d = none → Q (.ref C) (some d) (upd H1 d (.xd [(("value" : Str), v)]))
theorem pmk_ownV {a : Expr} {ta : TA} {p pos : Pos} {k : Nat} (T : PySem.OwnX.OwnTxt cx qn X.K X.mg C fI) (hr : Room k X.A) (ha : PA X [a] ta) (hg : Gl X cx := by rfl) (hdb : (cx == ("__debug__" : Str)) = false := by decide)
    (he : starEach (a :: []) X.env = (false, eval a X.env) :: starEach [] X.env := by rfl) (hpl : (backTo pos (starEach [] X.env)).any (·.1) = false := by rfl) :
    PMk X (.Call (.Name cx p) [a] [] pos) (tMkOwn C ta) := by
  intro pins s σ H Q I h
  refine wpAny_Call_Name_kw (ld_glob I hg T.gC ?_ (hd := hdb))
  refine PySem.W.callWith_K (h₀ := X.base) I.ok.mod.kin T.kC (thn (ha.run pos pins s σ H _ I h) fun us s1 hh => ?_) he hpl
  obtain ⟨vs, H1, I1, r1, v, ev, q1⟩ := hh
  subst ev
  refine ⟨I1.kIn, ?_⟩
  cases r1 with
  | cons rv rn =>
    rename_i v' us'
    cases rn
    show wpAny _ _ (call (.ref C) [v']) _ _ _
    have hlim := I1.nolimit
    obtain ⟨hp, g, dr, tk, os⟩ := s1
    refine wpAny_call (PySem.OwnX.own_made T I1.kIn hlim (by have := hr.dp; omega) fun h' tk' e d M => ?_)
    show MkP X pins σ Q (.ref e) ⟨h', g, dr, tk', os⟩
    obtain ⟨oe, fv, hoe, hc, hd, hdat, h1⟩ := M.obj
    have hns := M.ns
    obtain ⟨G', g1, g2⟩ := restrict h' fun b => decide (b ≠ e)
    have gk : ∀ b, b ≠ e → G'.get? b = h'.get? b := fun b hb => g1 b (decide_eq_true hb)
    have ge : G'.get? e = none := g2 e (by simp)
    have old : ∀ b o, hp.get? b = some o → G'.get? b = some o := fun b o q => (gk b (Nat.ne_of_lt (Nat.lt_of_lt_of_le (Heap.lt_size q) M.new))).trans (M.keep b o q)
    have ob : ObjOk X.prog X.w (upd H1 d (.xd [(("value" : Str), v)])) G' d (.xd [(("value" : Str), v)]) :=
      ⟨_, hns.at (fun o q => (gk d M.dne).trans q), fun f => relO_low rv f⟩
    have J : Inv X pins σ (upd H1 d (.xd [(("value" : Str), v)])) ⟨G', g, dr, tk', os⟩ := I1.laid (t' := tk') old M.dbig ob
    refine ⟨e, oe, fv, ⟨G', g, dr, tk', os⟩, _, .ref C, some d, rfl, J, fun b o q => ?_, ge, hoe, ⟨hc, hd⟩, hdat, h1, ?_, rfl, I1.bare, raises_own T.exC T.tyC, q1 d (I1.hok.fresh M.dbig)⟩
    · by_cases hb : b = e
      · have q' : G'.get? b = some o := q
        rw [hb, ge] at q'; cases q'
      · exact (gk b hb).symm.trans q
    · rw [upd_ne (Ne.symm M.dne)]
      exact I1.hok.fresh M.new
/-- raise Own(e) -/
def tRaiseOwn (C : Addr) (W : WX) (ta : TA) : TS := fun _ σ H => tMkOwn C ta σ H fun cls d H' => W cls d σ H'
theorem ps_raiseOwn {a : Expr} {ta : TA} {W : WX} {p pos pos2 : Pos} {k : Nat} (hc : X.calm = true) (T : PySem.OwnX.OwnTxt cx qn X.K X.mg C fI) (hr : Room k X.A) (tk : Takes X W) (ha : PA X [a] ta) (hg : Gl X cx := by rfl) (hdb : (cx == ("__debug__" : Str)) = false := by decide)
    (he : starEach (a :: []) X.env = (false, eval a X.env) :: starEach [] X.env := by rfl) (hpl : (backTo pos (starEach [] X.env)).any (·.1) = false := by rfl) :
    PS X (.Raise (some (.Call (.Name cx p) [a] [] pos)) none pos2) (tRaiseOwn C W ta) := ps_raise hc tk (pmk_ownV T hr ha hg hdb he hpl)
/-- low.by, low the exception that the suite holds (at a; its class cls, its dict d) -/
def tByOwn (C : Addr) (a : Addr) (cls : Value) (d : Option Addr) (te : TE) : TE := fun σ H Q => te σ H fun x H1 => x = .ref a ∧ cls = .ref C ∧ ∃ (dd : Addr) (v : V), d = some dd ∧ H1 dd = some (.xd [(("value" : Str), v)]) ∧ Q v H1
theorem pe_byOwn {a : Addr} {oe : Obj} {cls : Value} {d : Option Addr} {pn : List (Addr × Obj)} {e : Expr} {te : TE} {pos : Pos} (T : PySem.OwnX.OwnTxt cx qn X.K X.mg C fI) (hz : Zc cls d oe) (hf : ∃ vs, oe.data = .fields vs) (he : PE (X.suite a ((a, oe) :: pn)) e te)
    (hb : attributeBase e "value" X.env (eval e X.env) = eval e X.env := by rfl) :
    PE (X.suite a ((a, oe) :: pn)) (.Attribute e "value" pos) (tByOwn C a cls d te) := by
  refine ⟨fun pins s σ H Q I h => ?_⟩
  refine attr_of hb (thn (he.run pins s σ H _ I h) fun u s1 hh => ?_)
  obtain ⟨x, H1, I1, rx, ex, ec, dd, v, ed, ea, q⟩ := hh
  subst ex
  obtain rfl : u = Value.ref a := rx
  subst ec
  subst ed
  obtain ⟨ha, _⟩ := I1.pin (a, oe) (List.mem_append_left _ List.mem_cons_self)
  obtain ⟨vs, hd⟩ := hf
  have hx : ObjOk X.prog X.w H1 s1.heap dd (.xd [(("value" : Str), v)]) := I1.hok dd _ ea
  obtain ⟨mA, hns, hr⟩ := hx
  obtain ⟨od, ho, hl⟩ := lookIn_ns hns
  have l : List.lookup ("value" : Str) [(("value" : Str), v)] = some v := by simp [List.lookup]
  obtain ⟨u, hu, ru⟩ := RelO.some_of (v := v) (o := mA "value") (by rw [← l]; exact hr "value")
  have J : PySem.W.InstAt s1.heap a oe C (some od) := ⟨ha, hz.1, by unfold PySem.W.notCls; rw [hd] <;> rfl, by rw [hz.2]; exact ho⟩
  exact HandSPX.exc_get I1.kIn J T.ga T.gg T.exC (PySem.W.findObj_own T.hdC T.noN rfl (by rw [hl, hu])) (handed_of ru) ⟨v, H1, I1.tok _, ru, q⟩
end
end L2


set_option Elab.async false
set_option linter.all false
set_option maxRecDepth 100000
set_option maxHeartbeats 1000000
namespace TT
open PySem PySem.Spec PyProof.Rows L2
/-! ### errors of the program's own: raise, try, their value -/
theorem Stp.fresh {G : Bg} {Z : Zs} {H : Hp} {p : Addr} {o : HO} (hp : H p = none) : Stp G [] Z H [] Z (upd H p o) [] :=
  ⟨fun a u h _ _ => by rw [upd_ne (ne_of_none h hp)]; exact h, fun a u h => ⟨u, by rw [upd_ne (ne_of_none h hp)]; exact h⟩, fun _ z => z, fun _ z => .inl z, fun _ h => nomatch h⟩
def rRaise (cx : Str) (ms : List Bool) (t : RA) : RS := fun P env => t (mask ms env) (fun ds => match ds with
  | [d] => P.ex (cx, frz d) (frzS ms env)
  | _ => False) (fun x => P.ex x (frzS ms env))
section
variable {X : Cx} {W : WX} {G : Bg} {c c1 c2 : Nat} {C fI : Addr} {cx qn : Str}
theorem js_raise {a : Expr} {t : RA} {p pos pos2 : Pos} {k : Nat} (ms : List Bool) (hc : X.calm = true) (T : PySem.OwnX.OwnTxt cx qn X.K X.mg C fI) (hr : Room k X.A) (tk : Takes X W) (ha : JA X W G c [a] t) (hg : Gl X cx := by rfl) (hdb : (cx == ("__debug__" : Str)) = false := by decide)
    (he : starEach (a :: []) X.env = (false, eval a X.env) :: starEach [] X.env := by rfl) (hpl : (backTo pos (starEach [] X.env)).any (·.1) = false := by rfl) :
    JS X W G c (.Raise (some (.Call (.Name cx p) [a] [] pos)) none pos2) (rRaise cx ms t) := psImp (ps_raiseOwn hc T hr tk ha hg hdb he hpl) fun Dn σ H h => by
  obtain ⟨n, Z, env, F, P, l, s, t, qn, qb, qc, qr, qx⟩ := h
  obtain ⟨g, w⟩ := s.view ms
  refine ⟨n, _, mask ms env, _, _, ⟨g, by omega⟩, w, t, fun ds vs fp Z1 H1 r1 o1 t1 => ?_, fun y cls da Z1 H1 r1 xr e1 => qx y cls da Z1 _ σ H1 _ (s.fails r1) xr e1⟩
  match ds, o1, t1 with
  | [d], o1, t1 =>
    obtain ⟨v, e, o2⟩ := obL1 o1
    obtain ⟨g2, rp, s2⟩ := o2.share r1.gd
    refine ⟨v, e, fun dd hd => ?_⟩
    have r2 := (r1.op s2 g2).op (Stp.fresh (o := .xd [("value", v)]) hd) (g2.new hd)
    refine qx (cx, frz d) (.ref C) (some dd) _ _ σ _ _ (s.fails r2) ⟨T.gC, dd, v, rfl, upd_same, ?_⟩ t1
    exact rp.step g2 (Stp.fresh hd) (fun _ m => nomatch m) (fun _ m => nomatch m)
  | [], _, t1 => exact t1.elim
  | _ :: _ :: _, _, t1 => exact t1.elim
/-- the family of classes that a clause may meet -/
structure Fam (X : Cx) (c : Value) (ex : Str → Option Bool) : Prop where
  is : ∀ x b cls, ex x = some b → X.mg x = some cls → PySem.W.exmOne X.K cls c = some b
/-- try .. except c as n (in slot i) -/
def rTryAs (ex : Str → Option Bool) (i : Nat) (tb : RS) (ts : Str → Addr → Addr → RS) : RS := fun P env => tb { nx := P.nx, rt := P.rt, bk := P.bk, ct := P.ct, ex := fun x env1 => match ex x.1 with
  | some true => ∀ a dd, ts x.1 a dd { nx := fun e => P.nx (e.set i none), rt := P.rt, bk := fun e => P.bk (e.set i none), ct := fun e => P.ct (e.set i none) } (env1.set i (some (.exc a dd x.2)))
  | some false => P.ex x env1
  | none => False } env
theorem Stt.erase {K : PySem.W.Frag} {n : Nat} {Z : Zs} {H : Hp} {env : Ev} {σ : L2.St} {F : List (List Addr)} (s : Stt K G n Z H env σ F) (i : Nat) : Stt K G n Z H (env.set i none) (σ.set i none) F := by
  refine ⟨s.gd, by rw [List.length_set, List.length_set]; exact s.len, by rw [List.length_set]; exact s.lenF, fun j d h => ?_, s.nd, s.nz, s.nb, s.mt⟩
  have ne : i ≠ j := fun e => by
    subst e
    rw [List.getElem?_set] at h
    by_cases q : i < env.length
    · simp [q] at h
    · simp [q] at h
  rw [List.getElem?_set_ne ne] at h
  obtain ⟨v, fp, e1, e2, r⟩ := s.at_ j d h
  exact ⟨v, fp, by rw [List.getElem?_set_ne ne]; exact e1, e2, r⟩
theorem Send.erase {K : PySem.W.Frag} {n : Nat} {Z Z1 : Zs} {H H1 : Hp} {A : List Addr} {env1 : Ev} {σ1 : L2.St} {F1 : List (List Addr)} (s : Send K G n c Z H A Z1 env1 σ1 H1 F1) (i : Nat) : Send K G n c Z H A Z1 (env1.set i none) (σ1.set i none) H1 F1 := ⟨s.st, s.stt.erase i⟩
theorem flat_set0 {F : List (List Addr)} {i : Nat} : ∀ a ∈ (F.set i []).flatten, a ∈ F.flatten := fun a m => by
  obtain ⟨f, hf, ha⟩ := List.mem_flatten.mp m
  rcases List.mem_or_eq_of_mem_set hf with h | h
  · exact List.mem_flatten.mpr ⟨f, h, ha⟩
  · rw [h] at ha; cases ha
theorem Send.hold {K : PySem.W.Frag} {n : Nat} {Z Z1 : Zs} {H H1 : Hp} {A : List Addr} {env1 : Ev} {σ1 : L2.St} {F1 : List (List Addr)} {d : D} {v : V} (s : Send K G n c Z H A Z1 env1 σ1 H1 F1) (i : Nat) (o : Ob K G Z1 H1 d v []) : Send K G n c Z H A Z1 (env1.set i (some d)) (σ1.set i (some v)) H1 (F1.set i []) :=
  ⟨⟨s.st.keep, s.st.there, s.st.zz, s.st.zn, fun a m => s.st.fn a (flat_set0 a m)⟩, s.stt.store o (fun _ m => nomatch m) i⟩
theorem pss_two {X : Cx} {st : List Stmt} {ι : Type} {p : ι → Prop} {t : ι → TS} (h : ∀ i, p i → PSs X st (t i)) : PSs X st (fun D σ H => ∃ i, p i ∧ t i D σ H) := ⟨fun pins s σ H D I ⟨i, pi, q⟩ => (h i pi).run pins s σ H D I q⟩
theorem js_tryAs {x n : Str} {cv : Value} {i : Nat} {body suite : List Stmt} {b₀ : Stmt} {np pos pos' : Pos} {tb : RS} {ts : Str → Addr → Addr → RS} (ex : Str → Option Bool) (hs : X.stack = X.env :: X.outer) (hf : X.env.frame = some X.env.locals) (nd : X.N.Nodup) (hi : X.N[i]? = some n) (hk : X.env.kindOf n = some NameKind.local)
    (hn : Names X x cv) (fam : Fam X cv ex) (tk : Takes X W)
    (hb : ∀ (W' : WX) (pn : List (Addr × Obj)) (xe : Value → Shared → Prop), Takes (X.tr pn xe) W' → PassesOwn (model X.prog X.w) X.A X.env xe → JB (X.tr pn xe) W' G c1 body tb)
    (hsu : ∀ (y : Str) (a dd : Addr) (oe : Obj) (cls : Value) (pn : List (Addr × Obj)), ex y = some true → X.mg y = some cls → Zc cls (some dd) oe → (∃ vs, oe.data = Data.fields vs) → JB (X.suite a ((a, oe) :: pn)) (fun _ _ _ _ => False) G c2 (b₀ :: suite) (ts y a dd)) :
    JS X W G (c1 + c2) (.Try body [.ExceptHandler (some (.Name x np)) (some n) (b₀ :: suite) pos'] [] [] pos) (rTryAs ex i tb ts) := by
  refine psImp (ps_try_as (i := i) (tb := fun W' => liSt X W' G c1 tb) (ts := fun a cls d => fun D σ H => ∃ yd : Str × Addr, (ex yd.1 = some true ∧ X.mg yd.1 = some cls ∧ d = some yd.2) ∧ liSt X (fun _ _ _ _ => False) G c2 (ts yd.1 a yd.2) D σ H) hs hf nd hi hk hn tk (fun W' pn xe tk' po => hb W' pn xe tk' po) (fun a oe cls d pn hz hf2 => ?_)) fun Dn σ H h => ?_
  · refine pss_two fun yd h => ?_
    obtain ⟨h1, h2, h3⟩ := h
    subst h3
    exact hsu yd.1 a yd.2 oe cls pn h1 h2 hz hf2
  · obtain ⟨n, Z, env, F, P, l, s, t, qn, qb, qc, qr, qx⟩ := h
    refine ⟨n, Z, env, F, _, by omega, s, t, fun Z' env' σ' H' F' e q => qn Z' env' σ' H' F' e.up q, fun Z' env' σ' H' F' e q => qb Z' env' σ' H' F' e.up q, fun Z' env' σ' H' F' e q => qc Z' env' σ' H' F' e.up q, fun d v fp Z' H' st g o q => qr d v fp Z' H' st (g.up (by omega)) o q, fun y cls da Z1 env1 σ1 H1 F1 e1 xr t1 => ?_⟩
    have t1' : (match ex y.1 with
      | some true => ∀ a dd, ts y.1 a dd { nx := fun e => P.nx (e.set i none), rt := P.rt, bk := fun e => P.bk (e.set i none), ct := fun e => P.ct (e.set i none) } (env1.set i (some (.exc a dd y.2)))
      | some false => P.ex y env1
      | none => False) := t1
    clear t1
    cases hx : ex y.1 with
    | none => rw [hx] at t1'; exact t1'.elim
    | some b =>
      rw [hx] at t1'
      obtain ⟨hm, dd, v, ed, hd, rp⟩ := xr
      refine ⟨b, fam.is _ _ _ hx hm, fun eb a na => ?_, fun eb => ?_⟩
      · subst eb
        subst ed
        refine ⟨(y.1, dd), ⟨hx, hm, rfl⟩, ?_⟩
        have o : Ob X.K G Z1 H1 (.exc a dd y.2) (.ref a) [] := Ob.flat ⟨rfl, rfl, v, hd, rp⟩
        exact liSt.from (e1.hold i o) l (t1' a dd) (fun Z' env' σ' H' F' e q => qn _ _ _ _ _ (e.erase i) q) (fun Z' env' σ' H' F' e q => qb _ _ _ _ _ (e.erase i) q) (fun Z' env' σ' H' F' e q => qc _ _ _ _ _ (e.erase i) q) (fun d v fp Z' H' st g o q => qr d v fp Z' H' st g o q) (fun _ _ _ _ _ _ _ _ _ _ q => q.elim)
      · subst eb
        exact qx y cls da Z1 env1 σ1 H1 F1 e1.up ⟨hm, dd, v, ed, hd, rp⟩ t1'
/-- e.value in a suite -/
def gVal (a dd : Addr) : D → (D → Prop) → Prop := fun x Q => match x with
  | .exc a' dd' d => a' = a ∧ dd' = dd ∧ Q d
  | _ => False
theorem je_val {a dd : Addr} {oe : Obj} {pn : List (Addr × Obj)} {W0 : WX} {e : Expr} {te : RE} {pos : Pos} (T : PySem.OwnX.OwnTxt cx qn X.K X.mg C fI) (hz : Zc (.ref C) (some dd) oe) (hf : ∃ vs, oe.data = Data.fields vs) (he : JE (X.suite a ((a, oe) :: pn)) W0 G c e te)
    (hb : attributeBase e "value" X.env (eval e X.env) = eval e X.env := by rfl) :
    JE (X.suite a ((a, oe) :: pn)) W0 G c (.Attribute e "value" pos) (fun env Q E => te env (fun x => gVal a dd x Q) E) := peImp (pe_byOwn T hz hf he hb) fun σ H Q h => by
  obtain ⟨n, Z, env, Q', E', p, w, t, q, x⟩ := h
  refine ⟨n, Z, env, _, E', p, w, t, fun d v fp Z1 H1 r1 o1 t1 => ?_, x⟩
  unfold gVal at t1
  split at t1
  · rename_i a' dd' d
    obtain ⟨e1, e2, t1⟩ := t1
    subst e1 e2
    obtain ⟨e3, ef, u, hd, rp⟩ := o1.rp
    subst ef
    exact ⟨e3, rfl, _, u, rfl, hd, q d u [] Z1 H1 r1 (Ob.flat rp) t1⟩
  · exact t1.elim
end
end TT

set_option Elab.async false
set_option linter.all false
set_option maxRecDepth 100000
set_option maxHeartbeats 1000000
namespace TT
open PySem PySem.Spec PyProof.Rows L2
section
variable {X : Cx} {W : WX} {G : Bg} {c c1 c2 : Nat}
/-- x += e on whole numbers (and -=) -/
def rAugI (i : Nat) (f : Int → Int → Int) (t : RM) : RS := fun P env => match env[i]? with
  | some (some (.int a)) => t env (fun d env' => match d with
    | .int b => P.nx (env'.set i (some (.int (f a b))))
    | _ => False) (fun x env' => P.ex x env')
  | _ => False
theorem js_augI {i : Nat} {x : Str} {e : Expr} {t : RM} {op : Operator} {f : Int → Int → Int} {pos p' : Pos} (hN : X.N.Nodup) (hi : X.N[i]? = some x) (hx : Loc X.env.scope x) (he : JM X W G c e t) (hp : PIp X op (ipI f)) (hf : X.fn x = true ∨ X.env.scope.names.lookup x = some .local := by first | exact .inl rfl | exact .inr rfl) :
    JS X W G c (.AugAssign (.Name x p') op e pos) (rAugI i f t) := psImp (ps_aug hN hi hx he hp hf) fun Dn σ H h => by
  obtain ⟨n, Z, env, F, P, l, s, t, qn, qb, qc, qr, qx⟩ := h
  unfold rAugI at t
  split at t
  · rename_i a h0
    obtain ⟨v0, fp0, e1, e2, rp0⟩ := s.at_ i _ h0
    have ev : v0 = .int a := rp0.1
    subst ev
    refine ⟨.int a, e1, n, Z, env, F, _, _, l, s, t, fun d v fp Z1 env1 F1 H1 s1 o1 ap st t1 => ?_, fun x cls da Z1 env1 F1 H1 e1 xr t1 => qx x cls da Z1 env1 σ H1 F1 e1 xr t1⟩
    split at t1
    · rename_i b
      have ev : v = .int b := o1.rp.1
      subst ev
      refine ⟨a, b, rfl, rfl, qn Z1 _ _ H1 _ ⟨⟨st.keep, st.there, st.zz, st.zn, fun y m => st.fn y (List.mem_append_right _ (flat_set0 y m))⟩, s1.store (d := .int (f a b)) (v := .int (f a b)) (fp := []) (Ob.flat ⟨rfl, rfl⟩) (fun _ m => nomatch m) i⟩ t1⟩
    · exact t1.elim
  · exact t.elim
end
end TT

set_option Elab.async false
set_option linter.all false
set_option maxRecDepth 100000
set_option maxHeartbeats 1000000
namespace TT
open PySem PySem.Spec PyProof.Rows L2
theorem RpL.put {K : PySem.W.Frag} {G : Bg} {Z : Zs} {H : Hp} {d : D} {v : V} {fp : List Addr} (r : Rp K G Z H d v fp) : ∀ (ds : List D) (vs : List V) (f : List Addr) (q : Nat), RpL K G Z H ds vs f → q < ds.length →
    ∃ f', RpL K G Z H (ds.set q d) (vs.set q v) f' ∧ (∀ a ∈ f', a ∈ f ∨ a ∈ fp) ∧ (f.Nodup → fp.Nodup → (∀ a ∈ f, ∀ b ∈ fp, a ≠ b) → f'.Nodup)
  | [], _, _, _, _, h => absurd h (Nat.not_lt_zero _)
  | x :: ds, vs, f, 0, ⟨u, vs', f1, f2, e, r1, rs, ef⟩, _ => by
    subst e ef
    refine ⟨fp ++ f2, ⟨v, vs', fp, f2, rfl, r, rs, rfl⟩, fun a m => (List.mem_append.mp m).elim .inr fun m => .inl (List.mem_append_right _ m), fun n1 n2 ap => List.nodup_append.mpr ⟨n2, (List.nodup_append.mp n1).2.1, fun a ha b hb e => ap b (List.mem_append_right _ hb) a ha e.symm⟩⟩
  | x :: ds, vs, f, q + 1, ⟨u, vs', f1, f2, e, r1, rs, ef⟩, h => by
    subst e ef
    obtain ⟨f', r', sb, nd⟩ := RpL.put r ds vs' f2 q rs (Nat.lt_of_succ_lt_succ h)
    refine ⟨f1 ++ f', ⟨u, vs'.set q v, f1, f', rfl, r1, r', rfl⟩, fun a m => (List.mem_append.mp m).elim (fun m => .inl (List.mem_append_left _ m)) fun m => (sb a m).elim (fun m => .inl (List.mem_append_right _ m)) .inr, fun n1 n2 ap => ?_⟩
    have z := List.nodup_append.mp n1
    refine List.nodup_append.mpr ⟨z.1, nd z.2.1 n2 fun a ha b hb => ap a (List.mem_append_right _ ha) b hb, fun a ha b hb e => ?_⟩
    rcases sb b hb with m | m
    · exact z.2.2 a ha b m e
    · exact ap a (List.mem_append_left _ ha) b m e
section
variable {K : PySem.W.Frag} {G : Bg} {n c : Nat} {Z Z1 : Zs} {H H1 : Hp} {A : List Addr} {env1 : Ev} {σ : L2.St} {F1 : List (List Addr)} {d : D} {v : V} {fp : List Addr}
/-- xs[q] = v, xs one's own, in slot i -/
theorem list_put {ds : List D} {i q : Nat} (s1 : Stt K G (n + c) Z1 H1 env1 σ F1) (st : Stp G A Z H A Z1 H1 (fp ++ F1.flatten)) (h1 : env1[i]? = some (some (.lst true ds))) (o1 : Ob K G Z1 H1 d v fp) (ap : ∀ a ∈ fp, ∀ b ∈ F1.flatten, a ≠ b) (hq : q < ds.length) :
    ∃ a vs F2, σ[i]? = some (some (.ref a)) ∧ H1 a = some (.lst vs) ∧ vs.length = ds.length ∧ Send K G n c Z H A Z1 (env1.set i (some (.lst true (ds.set q d)))) σ (upd H1 a (.lst (vs.set q v))) F2 := by
  obtain ⟨v1, fp1, e3, e4, rp1⟩ := s1.at_ i _ h1
  obtain ⟨a, vs, f, ev1, ha1, rl, ef⟩ := rp1
  subst ef ev1
  obtain ⟨f', rl', sb, ndf⟩ := RpL.put o1.rp ds vs f q rl hq
  have nd1 : (a :: f).Nodup := by
    obtain ⟨nd, _⟩ := flat_drop F1 i (a :: f) e4 s1.nd
    exact nd
  have na : a ∉ f := (List.nodup_cons.mp nd1).1
  have ma : a ∈ F1.flatten := memF e4 a List.mem_cons_self
  have nfp : a ∉ fp := fun m => ap a m a ma rfl
  have naf : a ∉ f' := fun m => (sb a m).elim na nfp
  have kU : ∀ b u, H1 b = some u → b ∉ [a] → (upd H1 a (.lst (vs.set q v))) b = some u := fun b u hb nb => by
    rw [upd_ne fun e => nb (by simp [e])]; exact hb
  have thU : ∀ b u, H1 b = some u → ∃ u', (upd H1 a (.lst (vs.set q v))) b = some u' := fun b u hb => by
    by_cases hba : b = a
    · subst hba; exact ⟨_, upd_same⟩
    · exact ⟨u, by rw [upd_ne hba]; exact hb⟩
  have nZ : ¬ Z1 a := s1.nz a ma
  have kR : ∀ (fx : List Addr), a ∉ fx → ∀ b u, H1 b = some u → (¬ Mut (some u) ∨ Z1 b ∨ b ∈ fx) → (upd H1 a (.lst (vs.set q v))) b = some u := fun fx hx b u hb cs => by
    refine kU b u hb fun m => ?_
    have : b = a := by simpa using m
    subst this
    rcases cs with cs | cs | cs
    · rw [ha1] at hb; cases hb; exact cs trivial
    · exact nZ cs
    · exact hx cs
  have sub1 : ∀ b ∈ (F1.set i []).flatten, b ∈ F1.flatten := fun b m => flat_set0 b m
  obtain ⟨_, ap1⟩ := flat_drop F1 i (a :: f) e4 s1.nd
  have oN : Ob K G Z1 (upd H1 a (.lst (vs.set q v))) (.lst true (ds.set q d)) (.ref a) (a :: f') := by
    refine ⟨⟨a, vs.set q v, f', rfl, upd_same, RpL.keep (fun _ z => z) _ _ _ (kR f' naf) rl', rfl⟩, ?_, fun b m => ?_, fun b m => ?_⟩
    · exact List.nodup_cons.mpr ⟨naf, ndf (List.nodup_cons.mp nd1).2 o1.nd fun x hx b hb e => ap b hb x (memF e4 x (List.mem_cons_of_mem _ hx)) e.symm⟩
    · rcases List.mem_cons.mp m with m | m
      · rw [m]; exact nZ
      · exact (sb b m).elim (fun m => s1.nz b (memF e4 b (List.mem_cons_of_mem _ m))) (o1.nz b)
    · rcases List.mem_cons.mp m with m | m
      · rw [m]; exact s1.nb a ma
      · exact (sb b m).elim (fun m => s1.nb b (memF e4 b (List.mem_cons_of_mem _ m))) (o1.nb b)
  have sN := s1.mutate (H' := upd H1 a (.lst (vs.set q v))) (M := [a]) h1 e3 e4 kU thU (fun b m => by
    have : b = a := by simpa using m
    rw [this]; exact List.mem_cons_self) oN (fun b hb b' hb' => by
    rcases List.mem_cons.mp hb with m | m
    · rw [m]; exact ap1 a List.mem_cons_self b' hb'
    · rcases sb b m with m | m
      · exact ap1 b (List.mem_cons_of_mem _ m) b' hb'
      · exact ap b m b' (sub1 b' hb'))
  refine ⟨a, vs, F1.set i (a :: f'), e3, ha1, rl.len, ⟨⟨fun b u hb nb nA => ?_, fun b u hb => ?_, st.zz, st.zn, fun b m => ?_⟩, sN⟩⟩
  · have q1 := st.keep b u hb nb nA
    refine kU b u q1 fun m => ?_
    have : b = a := by simpa using m
    subst this
    rcases st.fn b (List.mem_append_right _ ma) with z | z
    · exact nA z
    · rw [hb] at z; cases z
  · obtain ⟨u', q1⟩ := st.there b u hb
    exact thU b u' q1
  · refine st.fn b ?_
    rcases flat_set F1 i (a :: f') b m with m | m
    · rcases List.mem_cons.mp m with m | m
      · exact List.mem_append_right _ (by rw [m]; exact ma)
      · rcases sb b m with m | m
        · exact List.mem_append_right _ (memF e4 b (List.mem_cons_of_mem _ m))
        · exact List.mem_append_left _ m
    · exact List.mem_append_right _ m
end
section
variable {X : Cx} {W : WX} {G : Bg} {c : Nat} {e o ie : Expr} {pos ipos : Pos}
/-- xs[ix] = e, xs in slot i, the place told by the frame -/
def rPut (i : Nat) (ix : Ev → Option Int) (t : RM) : RS := fun P env => t env (fun d env' => match env'[i]?, ix env' with
  | some (some (.lst true ds)), some k => match ixN ds.length k with
    | some q => q < ds.length ∧ P.nx (env'.set i (some (.lst true (ds.set q d))))
    | none => False
  | _, _ => False) (fun x env' => P.ex x env')
def ixV (j : Nat) : Ev → Option Int := fun env => match env[j]? with
  | some (some (.int k)) => some k
  | _ => none
theorem js_putV {i j : Nat} {t : RM} (ho : PE X o (tVar i)) (hi : PE X ie (tVar j)) (he : JM X W G c e t) (h1 : swapsWithSole [.Subscript o ie ipos] e pos.line X.env = pure false := by rfl) (h2 : swappedStores [.Subscript o ie ipos] e X.env = pure none := by rfl)
    (h3 : List.map (fun x => x.snd) (assignEach [.Subscript o ie ipos] X.env) = [assign (.Subscript o ie ipos) X.env] := by rfl)
    (h4 : ∀ (v : Value), assign (.Subscript o ie ipos) X.env v = (do
                let ov ← holding [v] (eval o X.env)
                let iv ← holding [v, ov] (eval ie X.env)
                standAt ipos
                holding [v, ov, iv] (setItem ov iv v)
                release [v, ov, iv] []) := by intro _; rfl) :
    JS X W G c (.Assign [.Subscript o ie ipos] e pos) (rPut i (ixV j) t) := psImp (ps_asg he (pg_sub ho hi set_list h4) h1 h2 h3) fun Dn σ H h => by
  obtain ⟨n, Z, env, F, P, l, s, t, qn, qb, qc, qr, qx⟩ := h
  refine ⟨n, Z, env, F, _, _, l, s, t, fun d v fp Z1 env1 F1 H1 s1 o1 ap st t1 => ?_, fun x cls da Z1 env1 F1 H1 e1 xr t1 => qx x cls da Z1 env1 σ H1 F1 e1 xr t1⟩
  split at t1
  · rename_i ds k hx hk
    split at t1
    · rename_i q hq
      obtain ⟨a, vs, F2, es, ha, lv, sd⟩ := list_put s1 st hx o1 ap t1.1
      unfold ixV at hk
      split at hk
      · rename_i k' hj
        cases hk
        obtain ⟨vj, fj, ej, _, rj⟩ := s1.at_ j _ hj
        have evj : vj = .int k := rj.1
        subst evj
        refine ⟨.ref a, es, .int k, ej, a, vs, k, q, rfl, rfl, ha, by rw [lv]; exact hq, qn Z1 _ σ _ F2 sd t1.2⟩
      · cases hk
    · exact t1.elim
  · exact t1.elim
theorem js_putC {i : Nat} {k : Int} {t : RM} (ho : PE X o (tVar i)) (hi : PE X ie (tC (.int k))) (he : JM X W G c e t) (h1 : swapsWithSole [.Subscript o ie ipos] e pos.line X.env = pure false := by rfl) (h2 : swappedStores [.Subscript o ie ipos] e X.env = pure none := by rfl)
    (h3 : List.map (fun x => x.snd) (assignEach [.Subscript o ie ipos] X.env) = [assign (.Subscript o ie ipos) X.env] := by rfl)
    (h4 : ∀ (v : Value), assign (.Subscript o ie ipos) X.env v = (do
                let ov ← holding [v] (eval o X.env)
                let iv ← holding [v, ov] (eval ie X.env)
                standAt ipos
                holding [v, ov, iv] (setItem ov iv v)
                release [v, ov, iv] []) := by intro _; rfl) :
    JS X W G c (.Assign [.Subscript o ie ipos] e pos) (rPut i (fun _ => some k) t) := psImp (ps_asg he (pg_sub ho hi set_list h4) h1 h2 h3) fun Dn σ H h => by
  obtain ⟨n, Z, env, F, P, l, s, t, qn, qb, qc, qr, qx⟩ := h
  refine ⟨n, Z, env, F, _, _, l, s, t, fun d v fp Z1 env1 F1 H1 s1 o1 ap st t1 => ?_, fun x cls da Z1 env1 F1 H1 e1 xr t1 => qx x cls da Z1 env1 σ H1 F1 e1 xr t1⟩
  split at t1
  · rename_i ds k' hx hk
    cases hk
    split at t1
    · rename_i q hq
      obtain ⟨a, vs, F2, es, ha, lv, sd⟩ := list_put s1 st hx o1 ap t1.1
      exact ⟨.ref a, es, a, vs, k, q, rfl, rfl, ha, by rw [lv]; exact hq, qn Z1 _ σ _ F2 sd t1.2⟩
    · exact t1.elim
  · exact t1.elim
end
end TT

set_option Elab.async false
set_option linter.all false
set_option maxRecDepth 100000
set_option maxHeartbeats 1000000
namespace TT
open PySem PySem.Spec PyProof.Rows L2
/-! ### dicts whose keys are tuples, as trees -/
def key1 : D → Option Key
  | .int i => some (.inl i)
  | .str x => some (.inr x)
  | _ => none
def keyL : List D → Option (List Key)
  | [] => some []
  | d :: ds => match key1 d, keyL ds with
    | some k, some ks => some (k :: ks)
    | _, _ => none
def keyD : D → Option (List Key)
  | .tup ds => keyL ds
  | _ => none
/-- what stands under a key -/
def dlk (x : List Key) : List (List Key) → List D → Option D
  | k :: ks, d :: ds => if k = x then some d else dlk x ks ds
  | _, _ => none
def kix (x : List Key) : List (List Key) → Nat
  | [] => 0
  | k :: ks => if k = x then 0 else kix x ks + 1
instance memK (x : List Key) (ks : List (List Key)) : Decidable (x ∈ ks) := decidable_of_iff ((ks.any fun k => decide (k = x)) = true) (by simp)
/-- in its place, or at the end -/
def dput {α : Type} (ks : List (List Key)) (ds : List α) (x : List Key) (d : α) : List (List Key) × List α := if x ∈ ks then (ks, ds.set (kix x ks) d) else (ks ++ [x], ds ++ [d])
theorem kix_lt {x : List Key} : ∀ {ks : List (List Key)}, x ∈ ks → kix x ks < ks.length
  | k :: ks, h => by
    unfold kix
    by_cases e : k = x
    · rw [if_pos e]; exact Nat.succ_pos _
    · rw [if_neg e]
      rcases List.mem_cons.mp h with h | h
      · exact absurd h.symm e
      · exact Nat.succ_lt_succ (kix_lt h)
theorem dlk_none {x : List Key} : ∀ {ks : List (List Key)} {ds : List D}, ks.length = ds.length → (dlk x ks ds = none ↔ x ∉ ks)
  | [], [], _ => ⟨fun _ h => (nomatch h), fun _ => rfl⟩
  | k :: ks, d :: ds, l => by
    unfold dlk
    by_cases e : k = x
    · rw [if_pos e]
      exact ⟨fun h => (nomatch h), fun h => absurd (by rw [e]; exact List.mem_cons_self) h⟩
    · rw [if_neg e, dlk_none (by simpa using l)]
      exact ⟨fun h m => (List.mem_cons.mp m).elim (fun z => e z.symm) h, fun h m => h (List.mem_cons_of_mem _ m)⟩
theorem dlk_set {x y : List Key} {d : D} : ∀ {ks : List (List Key)} {ds : List D}, ks.length = ds.length → x ∈ ks → dlk y ks (ds.set (kix x ks) d) = if y = x then some d else dlk y ks ds
  | k :: ks, e0 :: ds, l, h => by
    unfold kix
    by_cases e : k = x
    · rw [if_pos e]
      show dlk y (k :: ks) (d :: ds) = _
      unfold dlk
      by_cases ey : y = x
      · rw [if_pos ey, if_pos (by rw [e, ey])]
      · rw [if_neg ey, if_neg (fun z => ey (by rw [← z, e])), if_neg (fun z => ey (by rw [← z, e]))]
    · rw [if_neg e]
      have h' : x ∈ ks := (List.mem_cons.mp h).elim (fun z => absurd z.symm e) id
      show dlk y (k :: ks) (e0 :: ds.set (kix x ks) d) = _
      unfold dlk
      by_cases ek : k = y
      · rw [if_pos ek, if_pos ek, if_neg (fun z => e (by rw [ek, z]))]
      · rw [if_neg ek, if_neg ek, dlk_set (by simpa using l) h']
theorem dlk_app {x y : List Key} {d : D} : ∀ {ks : List (List Key)} {ds : List D}, ks.length = ds.length → x ∉ ks → dlk y (ks ++ [x]) (ds ++ [d]) = if y = x then some d else dlk y ks ds
  | [], [], _, _ => by
    show dlk y [x] [d] = _
    unfold dlk
    by_cases e : x = y
    · rw [if_pos e, if_pos e.symm]
    · rw [if_neg e, if_neg (fun z => e z.symm)]; rfl
  | k :: ks, e0 :: ds, l, h => by
    show dlk y (k :: (ks ++ [x])) (e0 :: (ds ++ [d])) = _
    unfold dlk
    by_cases ek : k = y
    · rw [if_pos ek, if_pos ek, if_neg (fun z => h (by rw [← z, ← ek]; exact List.mem_cons_self))]
    · rw [if_neg ek, if_neg ek, dlk_app (by simpa using l) (fun m => h (List.mem_cons_of_mem _ m))]
theorem dlk_put {x y : List Key} {d : D} {ks : List (List Key)} {ds : List D} (l : ks.length = ds.length) : dlk y (dput ks ds x d).1 (dput ks ds x d).2 = if y = x then some d else dlk y ks ds := by
  unfold dput
  by_cases h : x ∈ ks
  · rw [if_pos h]; exact dlk_set l h
  · rw [if_neg h]; exact dlk_app l h
theorem dput_len {α : Type} {x : List Key} {d : α} {ks : List (List Key)} {ds : List α} (l : ks.length = ds.length) : (dput ks ds x d).1.length = (dput ks ds x d).2.length := by
  unfold dput
  by_cases h : x ∈ ks
  · rw [if_pos h]; show ks.length = (ds.set _ _).length; rw [List.length_set]; exact l
  · rw [if_neg h]; simp [l]
theorem dput_keys {α : Type} {x : List Key} {d : α} {ks : List (List Key)} {ds : List α} : ∀ y, y ∈ (dput ks ds x d).1 ↔ y = x ∨ y ∈ ks := fun y => by
  unfold dput
  by_cases h : x ∈ ks
  · rw [if_pos h]
    exact ⟨.inr, fun z => z.elim (fun e => by rw [e]; exact h) id⟩
  · rw [if_neg h]
    simp [or_comm]
theorem dput_nd {α : Type} {x : List Key} {d : α} {ks : List (List Key)} {ds : List α} (nd : ks.Nodup) : (dput ks ds x d).1.Nodup := by
  unfold dput
  by_cases h : x ∈ ks
  · rw [if_pos h]; exact nd
  · rw [if_neg h]
    exact List.nodup_append.mpr ⟨nd, by simp, fun a ha b hb e => h (by
      have : b = x := by simpa using hb
      rw [← this, ← e]; exact ha)⟩
theorem zip_id {x : List Key} {v : V} : ∀ {ks : List (List Key)} {vs : List V}, x ∉ ks → (ks.zip vs).map (fun kv => if kv.1 = x then (kv.1, v) else kv) = ks.zip vs
  | [], _, _ => rfl
  | _ :: _, [], _ => rfl
  | k :: ks, u :: vs, h => by
    show (if k = x then (k, v) else (k, u)) :: (ks.zip vs).map _ = (k, u) :: ks.zip vs
    rw [if_neg (fun z => h (by rw [← z]; exact List.mem_cons_self)), zip_id (fun m => h (List.mem_cons_of_mem _ m))]
theorem zip_set {x : List Key} {v : V} : ∀ {ks : List (List Key)} {vs : List V}, ks.Nodup → ks.length = vs.length → x ∈ ks → (ks.zip vs).map (fun kv => if kv.1 = x then (kv.1, v) else kv) = ks.zip (vs.set (kix x ks) v)
  | k :: ks, u :: vs, nd, l, h => by
    have nd := List.nodup_cons.mp nd
    unfold kix
    show (if k = x then (k, v) else (k, u)) :: (ks.zip vs).map _ = _
    by_cases e : k = x
    · rw [if_pos e, if_pos e, zip_id (by rw [← e]; exact nd.1)]
      rfl
    · rw [if_neg e, if_neg e, zip_set nd.2 (by simpa using l) ((List.mem_cons.mp h).elim (fun z => absurd z.symm e) id)]
      rfl
theorem any_zip {x : List Key} : ∀ {ks : List (List Key)} {vs : List V}, ks.length = vs.length → ((ks.zip vs).any (fun kv => decide (kv.1 = x)) = true ↔ x ∈ ks)
  | [], [], _ => by simp
  | k :: ks, u :: vs, l => by
    show (decide (k = x) || (ks.zip vs).any _) = true ↔ _
    rw [Bool.or_eq_true, any_zip (by simpa using l), decide_eq_true_iff, List.mem_cons]
    exact ⟨fun h => h.imp Eq.symm id, fun h => h.imp Eq.symm id⟩
theorem putK_dput {x : List Key} {v : V} {ks : List (List Key)} {vs : List V} (nd : ks.Nodup) (l : ks.length = vs.length) : putK (ks.zip vs) x v = (dput ks vs x v).1.zip (dput ks vs x v).2 := by
  unfold putK dput
  by_cases h : x ∈ ks
  · rw [if_pos ((any_zip l).mpr h), if_pos h]
    exact zip_set nd l h
  · rw [if_neg (fun z => h ((any_zip l).mp z)), if_neg h]
    show ks.zip vs ++ [(x, v)] = (ks ++ [x]).zip (vs ++ [v])
    rw [List.zip_append l]; rfl
section
variable {K : PySem.W.Frag} {G : Bg} {Z : Zs} {H : Hp}
theorem rpL_key : ∀ {ds : List D} {ks : List Key} {vs : List V} {fp : List Addr}, keyL ds = some ks → RpL K G Z H ds vs fp → vs = ks.map kV ∧ fp = []
  | [], ks, vs, fp, e, h => by
    cases e
    exact h
  | d :: ds, ks, vs, fp, e, ⟨v, vs', f1, f2, ev, r, rs, ef⟩ => by
    unfold keyL at e
    split at e
    · rename_i k ks' e1 e2
      cases e
      obtain ⟨a1, a2⟩ := rpL_key e2 rs
      have q : v = kV k ∧ f1 = [] := by
        cases d with
        | int i => cases e1; exact r
        | str x => cases e1; exact r
        | _ => cases e1
      subst ev ef
      rw [a1, a2, q.1, q.2]
      exact ⟨rfl, rfl⟩
    · cases e
theorem rp_key {d : D} {k : List Key} {v : V} {fp : List Addr} (e : keyD d = some k) (r : Rp K G Z H d v fp) : ∃ b, v = .ref b ∧ H b = some (.tup (k.map kV)) ∧ fp = [] := by
  cases d with
  | tup ds =>
    obtain ⟨b, vs, ev, hb, rl⟩ := r
    obtain ⟨a1, a2⟩ := rpL_key (ks := k) e rl
    exact ⟨b, ev, by rw [hb, a1], a2⟩
  | _ => cases e
theorem val_dlk {x : List Key} : ∀ {ks : List (List Key)} {ds : List D} {vs : List V} {f : List Addr}, RpL K G Z H ds vs f → ks.length = vs.length →
    match dlk x ks ds with
    | some d => ∃ v f', valV (ks.zip vs) x = some v ∧ Rp K G Z H d v f' ∧ ∀ a ∈ f', a ∈ f
    | none => valV (ks.zip vs) x = none
  | [], ds, vs, f, r, l => by
    have : vs = [] := by simpa using l.symm
    subst this
    have : ds = [] := by
      have := r.len
      simpa using this.symm
    subst this
    exact rfl
  | k :: ks, [], vs, f, r, l => by
    rw [r.1] at l; simp at l
  | k :: ks, d :: ds, vs, f, ⟨v, vs', f1, f2, ev, r, rs, ef⟩, l => by
    subst ev ef
    have ih := val_dlk (x := x) (ks := ks) rs (by simpa using l)
    unfold dlk
    by_cases e : k = x
    · rw [if_pos e]
      exact ⟨v, f1, valV_pos (p := (k, v)) e, r, fun a m => List.mem_append_left _ m⟩
    · rw [if_neg e]
      have hv : valV ((k, v) :: ks.zip vs') x = valV (ks.zip vs') x := valV_neg (p := (k, v)) e
      cases h : dlk x ks ds with
      | none =>
        rw [h] at ih
        exact hv.trans ih
      | some d' =>
        rw [h] at ih
        obtain ⟨u, f', a1, a2, a3⟩ := ih
        exact ⟨u, f', hv.trans a1, a2, fun a m => List.mem_append_right _ (a3 a m)⟩
theorem val_dlk0 {x : List Key} {ks : List (List Key)} {ds : List D} {vs : List V} {d : D} (r : RpL K G Z H ds vs []) (l : ks.length = vs.length) (e : dlk x ks ds = some d) : ∃ v, valV (ks.zip vs) x = some v ∧ Rp K G Z H d v [] := by
  have q := val_dlk (x := x) r l
  rw [e] at q
  obtain ⟨v, f', a1, a2, a3⟩ := q
  have : f' = [] := by
    cases f' with
    | nil => rfl
    | cons a r => exact absurd (a3 a List.mem_cons_self) (by simp)
  subst this
  exact ⟨v, a1, a2⟩
theorem val_isSome {x : List Key} {ks : List (List Key)} {ds : List D} {vs : List V} {f : List Addr} (r : RpL K G Z H ds vs f) (l : ks.length = vs.length) : (valV (ks.zip vs) x).isSome = (dlk x ks ds).isSome := by
  have q := val_dlk (x := x) r l
  cases e : dlk x ks ds with
  | none => rw [e] at q; rw [q]; rfl
  | some d =>
    rw [e] at q
    obtain ⟨v, _, a1, _⟩ := q
    rw [a1]; rfl
end
/-! ### d[y], y in d -/
def gDGet : D → D → (D → Prop) → Prop := fun x y Q => match x, keyD y with
  | .dcT false ks ds, some k => match dlk k ks ds with
    | some d => Q d
    | none => False
  | _, _ => False
def gDIn (neg : Bool) : D → D → (D → Prop) → Prop := fun y x Q => match x, keyD y with
  | .dcT false ks ds, some k => Q (.bl (if neg then !(dlk k ks ds).isSome else (dlk k ks ds).isSome))
  | _, _ => False
section
variable {X : Cx} {W : WX} {G : Bg} {c c1 c2 : Nat} {a b e : Expr} {ta tb : RE} {pos : Pos}
theorem DGet.tR {H : Hp} {a b : Addr} {kvs : List (List Key × V)} {k : List Key} (e : Rd H a (.dT kvs)) (eb : H b = some (.tup (k.map kV))) : DGet H a (.ref b) (valV kvs k) := .inr ⟨kvs, k, b, e, rfl, eb, rfl⟩
theorem v_dget : VOp2 X G (fun x y H Q => ∃ a v, x = .ref a ∧ DGet H a y (some v) ∧ Q v H) gDGet := by
  intro n Z H dx x fx dy y fy Q' Q g ox oy ap t q
  unfold gDGet at t
  split at t
  · rename_i ks ds k hk
    obtain ⟨p, vs, ev, hp, l, z, rl, ef⟩ := ox.rp
    obtain ⟨b, eb, hb, efy⟩ := rp_key hk oy.rp
    split at t
    · rename_i d hd
      obtain ⟨v, a1, a2⟩ := val_dlk0 rl l.1 hd
      subst ev eb ef efy
      refine ⟨p, v, rfl, ?_, q d v [] Z H Stp.refl0 g (Ob.flat a2) t⟩
      have := DGet.tR (k := k) hp hb
      rw [a1] at this
      exact this
    · exact t.elim
  · exact t.elim
theorem je_dget (hu : X.A.units + 65 < cLine) (ha : JE X W G c1 a ta) (hb : JE X W G c2 b tb) (hs : NoSl b := by intro _ _; rfl) : JE X W G (c1 + c2) (.Subscript a b pos) (r2 ta tb gDGet) :=
  peImp (pe_dget (by omega) ha hb hs) (tOp_of v_dget)
theorem v_din (neg : Bool) : VOp2 X G (fun y x H Q => ∃ a o, x = .ref a ∧ DGet H a y o ∧ Q (.bl (if neg then !o.isSome else o.isSome)) H) (gDIn neg) := by
  intro n Z H dy y fy dx x fx Q' Q g oy ox ap t q
  unfold gDIn at t
  split at t
  · rename_i ks ds k hk
    obtain ⟨p, vs, ev, hp, l, z, rl, ef⟩ := ox.rp
    obtain ⟨b, eb, hb, efy⟩ := rp_key hk oy.rp
    subst ev eb ef efy
    refine ⟨p, _, rfl, DGet.tR (k := k) hp hb, ?_⟩
    rw [val_isSome rl l.1]
    exact q (.bl _) _ [] Z H Stp.refl0 g (Ob.flat (d := .bl _) ⟨rfl, rfl⟩) t
  · exact t.elim
theorem je_din (hu : X.A.units + 65 < cLine) (ha : JE X W G c1 a ta) (hb : JE X W G c2 b tb) (hm : behindInMarks .In b = false := by with_unfolding_all rfl) : JE X W G (c1 + c2) (.Compare a [.In] [b] pos) (r2 ta tb (gDIn false)) :=
  peImp (pe_cmp (pc_din (by omega) ha hb) hm) (tOp_of (v_din false))
theorem je_dnotIn (hu : X.A.units + 65 < cLine) (ha : JE X W G c1 a ta) (hb : JE X W G c2 b tb) (hm : behindInMarks .NotIn b = false := by with_unfolding_all rfl) : JE X W G (c1 + c2) (.Compare a [.NotIn] [b] pos) (r2 ta tb (gDIn true)) :=
  peImp (pe_cmp (pc_dnotin (by omega) ha hb) hm) (tOp_of (v_din true))
theorem jt_ofPc {op : CmpOp} {r : R2} {g : D → D → (D → Prop) → Prop} (hp : PT X (.Compare a [op] [b] pos) (tB (tOp r (liE X W G c1 ta) (liE X W G c2 tb)))) (hv : VOp2 X G r g) : JT X W G (c1 + c2) (.Compare a [op] [b] pos) (fun env Q E => r2 ta tb g env (fun d => gBl d Q) E) :=
  ptImp hp fun σ H Q h => by
    obtain ⟨n, Z, env, Q', E', p, w, t, q, x⟩ := h
    refine tOp_of hv σ H _ ⟨n, Z, env, _, E', p, w, t, fun d v fp Z1 H1 r1 o1 t1 => ?_, x⟩
    unfold gBl at t1
    split at t1
    · rename_i b
      exact ⟨b, o1.rp.1, q b Z1 H1 r1.nofp t1⟩
    · exact t1.elim
theorem jt_din (hu : X.A.units + 65 < cLine) (ha : JE X W G c1 a ta) (hb : JE X W G c2 b tb) (hm : behindInMarks .In b = false := by with_unfolding_all rfl) : JT X W G (c1 + c2) (.Compare a [.In] [b] pos) (fun env Q E => r2 ta tb (gDIn false) env (fun d => gBl d Q) E) :=
  jt_ofPc (pt_cmp (pc_din (by omega) ha hb) hm) (v_din false)
theorem jt_dnotIn (hu : X.A.units + 65 < cLine) (ha : JE X W G c1 a ta) (hb : JE X W G c2 b tb) (hm : behindInMarks .NotIn b = false := by with_unfolding_all rfl) : JT X W G (c1 + c2) (.Compare a [.NotIn] [b] pos) (fun env Q E => r2 ta tb (gDIn true) env (fun d => gBl d Q) E) :=
  jt_ofPc (pt_cmp (pc_dnotin (by omega) ha hb) hm) (v_din true)
end
end TT

set_option Elab.async false
set_option linter.all false
set_option maxRecDepth 100000
set_option maxHeartbeats 1000000
namespace TT
open PySem PySem.Spec PyProof.Rows L2
/-- {k: v}, k a tuple of ints and texts -/
def disp1Q (p : Addr) (Q : VK) (x y : V) (H2 : Hp) : Prop := ∃ b ks, H2 p = some (.dT []) ∧ x = .ref b ∧ H2 b = some (.tup (ks.map kV)) ∧ Q (.ref p) (upd H2 p (.dT [(ks, y)]))
def tDisp1 (tk tv : TE) : TE := fun σ H Q => ∀ p, H p = none → tk σ (upd H p (.dT [])) fun x H1 => tv σ H1 fun y H2 => disp1Q p Q x y H2
section
variable {X : Cx} {W : WX} {G : Bg} {c c1 c2 : Nat} {a b e k v : Expr} {ta tb : RE} {pos : Pos}
theorem pe_disp1 {tk tv : TE} (hu : X.A.units + 1 < cLine) (hk : PE X k tk) (hv : PE X v tv) : PE X (.Dict [some k] [v] pos) (tDisp1 tk tv) := by
  refine ⟨fun pins s σ H Q I q => ?_⟩
  have hn := I.hok.fresh (Nat.le_refl s.heap.objs.size)
  have I1 := I.laid (a := s.heap.objs.size) (o := .dT []) (h' := s.heap.push { cls := .type "dict", data := .dict #[] }) (t' := s.toks) (fun _ _ q => Heap.get?_push_of_some _ q) (Nat.le_refl _) (dt_empty s.heap I.big)
  have hsh := zip_pairTrees [some k] [v] X.env pos rfl rfl
  have hl : (pairTrees [some k] [v] X.env pos).length = 1 := pairTrees_length [some k] [v] X.env pos rfl rfl
  have hr : X.A.units < cLine := by omega
  rw [arm_eval_Dict, hsh, dictDisplay_pairs (pairTrees [some k] [v] X.env pos) (by intro z; rw [z] at hl; cases hl) (by omega)]
  refine wpAny_bind (wpAny_standAt (wpAny_bind (wpAny_subDictH (knd := tupleKind (mixKind X.prog X.w)) (Q := fun d s' => wpAny (model X.prog X.w) X.A (pure (Value.ref d)) (EP X pins σ Q) X.xe s') hr (by omega) ?_)))
  refine thn ((pps_cons hk hv pps_nil : PPs X pos [some k] [v] [(tk, tv)]).run pins _ σ _ (fun ps H2 => match ps with
    | [(x, y)] => disp1Q s.heap.objs.size Q x y H2
    | _ => False) I1 (q _ hn)) fun ws s2 h2 => ?_
  obtain ⟨ps, H2, I2, rel, h2⟩ := h2
  match ps, rel, h2 with
  | [(x, y)], rel, h2 =>
    obtain ⟨b, ks, hp, ex, hb, q2⟩ := h2
    subst ex
    cases rel with
    | @cons _ w _ _ h t =>
      cases t
      obtain ⟨w1, w2⟩ := w
      obtain ⟨h1, hy⟩ := h
      have e1 : w1 = Value.ref b := h1
      subst e1
      obtain ⟨z, hd, xs, rel0, o0, es0, ep0, g1, g2, g3, g4, g5⟩ := dt_of I2.hok hp
      cases rel0
      refine ⟨[(ks, b, w2)], ⟨rfl, rfl, key_of I2.hok hb, trivial⟩, ⟨o0, es0, ep0, g1, g2, g3, g4, g5⟩, fun h' tk' dd hs => wpAny_pure ?_⟩
      obtain ⟨o, es, ep, hq, h2, h3, h4, _, h5⟩ := dd
      refine ⟨.ref s.heap.objs.size, _, ?_, rfl, q2⟩
      refine d_write I2 (by rw [hp]; exact True.intro) hs ⟨o, hq⟩ ⟨(by show 1 ≤ sizeLine; decide), hd, [(ks, b, w2)], .cons ⟨rfl, ?_, hy⟩ .nil, o, es, ep, hq, h2, h3, h4, h5⟩
      rw [upd_ne (ne_of hb hp (fun z => nomatch z))]
      exact hb
  | [], _, h2 => exact h2.elim
  | _ :: _ :: _, _, h2 => exact h2.elim
/-- .. over trees: the value owned or plain -/
def gDisp1 : D → D → (D → Prop) → Prop := fun x y Q => match keyD x with
  | some k => Q (.dcT true [k] [y])
  | none => False
end
/-! ### found[y] = e, found in slot i, y in slot j -/
def rDPut (i : Nat) (ix : Ev → Option D) (t : RM) : RS := fun P env => t env (fun d env' => match env'[i]?, ix env' with
  | some (some (.dcT true ks ds)), some y => match keyD y with
    | some k => ks.length < sizeLine ∧ P.nx (env'.set i (some (.dcT true (dput ks ds k d).1 (dput ks ds k d).2)))
    | none => False
  | _, _ => False) (fun x env' => P.ex x env')
def ixD (j : Nat) : Ev → Option D := fun env => match env[j]? with
  | some (some d) => some d
  | _ => none
section
variable {K : PySem.W.Frag} {G : Bg} {n c : Nat} {Z Z1 : Zs} {H H1 : Hp} {A : List Addr} {env1 : Ev} {σ : L2.St} {F1 : List (List Addr)} {d : D} {v : V} {fp : List Addr}
theorem kix_idx {α : Type} {x : List Key} {ks : List (List Key)} {vs : List α} : (dput ks vs x = fun d => if x ∈ ks then (ks, vs.set (kix x ks) d) else (ks ++ [x], vs ++ [d])) := rfl
theorem RpL.dput {ks : List (List Key)} {ds : List D} {vs : List V} {f : List Addr} {k : List Key} (r : Rp K G Z H d v fp) (rl : RpL K G Z H ds vs f) (l : ks.length = ds.length) :
    ∃ f', RpL K G Z H (TT.dput ks ds k d).2 (TT.dput ks vs k v).2 f' ∧ (∀ a ∈ f', a ∈ f ∨ a ∈ fp) ∧ (f.Nodup → fp.Nodup → (∀ a ∈ f, ∀ b ∈ fp, a ≠ b) → f'.Nodup) := by
  unfold TT.dput
  by_cases h : k ∈ ks
  · rw [if_pos h, if_pos h]
    exact RpL.put r ds vs f (kix k ks) rl (by rw [← l]; exact kix_lt h)
  · rw [if_neg h, if_neg h]
    exact ⟨f ++ fp, rl.app (RpL.one r), fun a m => List.mem_append.mp m, fun n1 n2 ap => List.nodup_append.mpr ⟨n1, n2, ap⟩⟩
theorem dput_1 {α β : Type} {ks : List (List Key)} {ds : List α} {vs : List β} {k : List Key} {d : α} {v : β} : (TT.dput ks ds k d).1 = (TT.dput ks vs k v).1 := by
  unfold TT.dput
  by_cases h : k ∈ ks
  · rw [if_pos h, if_pos h]
  · rw [if_neg h, if_neg h]
theorem dict_put {ks : List (List Key)} {ds : List D} {i : Nat} {k : List Key} (s1 : Stt K G (n + c) Z1 H1 env1 σ F1) (st : Stp G A Z H A Z1 H1 (fp ++ F1.flatten)) (h1 : env1[i]? = some (some (.dcT true ks ds))) (o1 : Ob K G Z1 H1 d v fp) (ap : ∀ a ∈ fp, ∀ b ∈ F1.flatten, a ≠ b) :
    ∃ a vs F2, σ[i]? = some (some (.ref a)) ∧ H1 a = some (.dT (ks.zip vs)) ∧ ks.length = vs.length ∧ Send K G n c Z H A Z1 (env1.set i (some (.dcT true (dput ks ds k d).1 (dput ks ds k d).2))) σ (upd H1 a (.dT (putK (ks.zip vs) k v))) F2 := by
  obtain ⟨v1, fp1, e3, e4, rp1⟩ := s1.at_ i _ h1
  obtain ⟨a, vs, f, ev1, ha1, ll, rl, ef⟩ := rp1
  subst ef ev1
  have ld : ks.length = ds.length := by rw [← rl.len]; exact ll.1
  obtain ⟨f', rl', sb, ndf⟩ := RpL.dput (k := k) o1.rp rl ld
  have nd1 : (a :: f).Nodup := by
    obtain ⟨nd, _⟩ := flat_drop F1 i (a :: f) e4 s1.nd
    exact nd
  have na : a ∉ f := (List.nodup_cons.mp nd1).1
  have ma : a ∈ F1.flatten := memF e4 a List.mem_cons_self
  have nfp : a ∉ fp := fun m => ap a m a ma rfl
  have naf : a ∉ f' := fun m => (sb a m).elim na nfp
  have kU : ∀ b u, H1 b = some u → b ∉ [a] → (upd H1 a (.dT ((dput ks vs k v).1.zip (dput ks vs k v).2))) b = some u := fun b u hb nb => by
    rw [upd_ne fun e => nb (by simp [e])]; exact hb
  have thU : ∀ b u, H1 b = some u → ∃ u', (upd H1 a (.dT ((dput ks vs k v).1.zip (dput ks vs k v).2))) b = some u' := fun b u hb => by
    by_cases hba : b = a
    · subst hba; exact ⟨_, upd_same⟩
    · exact ⟨u, by rw [upd_ne hba]; exact hb⟩
  have nZ : ¬ Z1 a := s1.nz a ma
  have kR : ∀ (fx : List Addr), a ∉ fx → ∀ b u, H1 b = some u → (¬ Mut (some u) ∨ Z1 b ∨ b ∈ fx) → (upd H1 a (.dT ((dput ks vs k v).1.zip (dput ks vs k v).2))) b = some u := fun fx hx b u hb cs => by
    refine kU b u hb fun m => ?_
    have : b = a := by simpa using m
    subst this
    rcases cs with cs | cs | cs
    · rw [ha1] at hb; cases hb; exact cs trivial
    · exact nZ cs
    · exact hx cs
  have sub1 : ∀ b ∈ (F1.set i []).flatten, b ∈ F1.flatten := fun b m => flat_set0 b m
  obtain ⟨_, ap1⟩ := flat_drop F1 i (a :: f) e4 s1.nd
  have oN : Ob K G Z1 (upd H1 a (.dT ((dput ks vs k v).1.zip (dput ks vs k v).2))) (.dcT true (dput ks ds k d).1 (dput ks ds k d).2) (.ref a) (a :: f') := by
    refine ⟨⟨a, (dput ks vs k v).2, f', rfl, by rw [dput_1 (ds := ds) (vs := vs) (d := d) (v := v)]; exact upd_same, ⟨by rw [dput_1 (ds := ds) (vs := vs) (d := d) (v := v)]; exact dput_len ll.1, dput_nd ll.2⟩, RpL.keep (fun _ z => z) _ _ _ (kR f' naf) rl', rfl⟩, ?_, fun b m => ?_, fun b m => ?_⟩
    · exact List.nodup_cons.mpr ⟨naf, ndf (List.nodup_cons.mp nd1).2 o1.nd fun x hx b hb e => ap b hb x (memF e4 x (List.mem_cons_of_mem _ hx)) e.symm⟩
    · rcases List.mem_cons.mp m with m | m
      · rw [m]; exact nZ
      · exact (sb b m).elim (fun m => s1.nz b (memF e4 b (List.mem_cons_of_mem _ m))) (o1.nz b)
    · rcases List.mem_cons.mp m with m | m
      · rw [m]; exact s1.nb a ma
      · exact (sb b m).elim (fun m => s1.nb b (memF e4 b (List.mem_cons_of_mem _ m))) (o1.nb b)
  have sN := s1.mutate (H' := upd H1 a (.dT ((dput ks vs k v).1.zip (dput ks vs k v).2))) (M := [a]) h1 e3 e4 kU thU (fun b m => by
    have : b = a := by simpa using m
    rw [this]; exact List.mem_cons_self) oN (fun b hb b' hb' => by
    rcases List.mem_cons.mp hb with m | m
    · rw [m]; exact ap1 a List.mem_cons_self b' hb'
    · rcases sb b m with m | m
      · exact ap1 b (List.mem_cons_of_mem _ m) b' hb'
      · exact ap b m b' (sub1 b' hb'))
  refine ⟨a, vs, F1.set i (a :: f'), e3, ha1, ll.1, ?_⟩
  rw [putK_dput (v := v) ll.2 ll.1]
  refine ⟨⟨fun b u hb nb nA => ?_, fun b u hb => ?_, st.zz, st.zn, fun b m => ?_⟩, sN⟩
  · have q1 := st.keep b u hb nb nA
    refine kU b u q1 fun m => ?_
    have : b = a := by simpa using m
    subst this
    rcases st.fn b (List.mem_append_right _ ma) with z | z
    · exact nA z
    · rw [hb] at z; cases z
  · obtain ⟨u', q1⟩ := st.there b u hb
    exact thU b u' q1
  · refine st.fn b ?_
    rcases flat_set F1 i (a :: f') b m with m | m
    · rcases List.mem_cons.mp m with m | m
      · exact List.mem_append_right _ (by rw [m]; exact ma)
      · rcases sb b m with m | m
        · exact List.mem_append_right _ (memF e4 b (List.mem_cons_of_mem _ m))
        · exact List.mem_append_left _ m
    · exact List.mem_append_right _ m
end
section
variable {X : Cx} {W : WX} {G : Bg} {c : Nat} {e o ie : Expr} {pos ipos : Pos}
theorem js_dputV {i j : Nat} {t : RM} (hu : X.A.units + 65 < cLine) (ho : PE X o (tVar i)) (hi : PE X ie (tVar j)) (he : JM X W G c e t) (hs : swapsWith e (some (.Subscript o ie ipos)) pos.line X.env = pure false := by rfl) :
    JS X W G c (.Assign [.Subscript o ie ipos] e pos) (rDPut i (ixD j) t) := psImp (ps_dput (by omega) ho hi he hs) fun Dn σ H h => by
  obtain ⟨n, Z, env, F, P, l, s, t, qn, qb, qc, qr, qx⟩ := h
  refine ⟨n, Z, env, F, _, _, l, s, t, fun d v fp Z1 env1 F1 H1 s1 o1 ap st t1 => ?_, fun x cls da Z1 env1 F1 H1 e1 xr t1 => qx x cls da Z1 env1 σ H1 F1 e1 xr t1⟩
  split at t1
  · rename_i ks ds y hx hk
    split at t1
    · rename_i k hq
      obtain ⟨a, vs, F2, es, ha, lv, sd⟩ := dict_put (k := k) s1 st hx o1 ap
      unfold ixD at hk
      split at hk
      · rename_i y' hj
        cases hk
        obtain ⟨vj, fj, ej, _, rj⟩ := s1.at_ j _ hj
        obtain ⟨b, evj, hb, _⟩ := rp_key hq rj
        subst evj
        refine ⟨.ref a, es, .ref b, ej, a, _, rfl, DPut.t (k := k) ha hb ?_, qn Z1 _ σ _ F2 sd t1.2⟩
        rw [List.length_zip, ← lv]
        have := t1.1
        omega
      · cases hk
    · exact t1.elim
  · exact t1.elim
end
end TT

set_option Elab.async false
set_option linter.all false
set_option maxRecDepth 100000
set_option maxHeartbeats 1000000
namespace TT
open PySem PySem.Spec PyProof.Rows L2
theorem Stp.over {G : Bg} {Z : Zs} {H : Hp} {A A' : List Addr} {p : Addr} {o : HO} (hA : ∀ a ∈ A', a ∈ A) : Stp G [p] Z H A Z (upd H p o) A' where
  keep := fun a u h _ m => by rw [upd_ne (fun e => m (by rw [e]; exact List.mem_cons_self))]; exact h
  there := fun a u h => by
    by_cases e : a = p
    · subst e; exact ⟨_, upd_same⟩
    · exact ⟨u, by rw [upd_ne e]; exact h⟩
  zz := fun _ z => z
  zn := fun _ z => .inl z
  fn := fun a m => .inl (hA a m)
theorem Gd.over {G : Bg} {n : Nat} {Z : Zs} {H : Hp} (g : Gd G n Z H) {p : Addr} {o : HO} (nb : ¬ inB G p) : Gd G n Z (upd H p o) :=
  ⟨g.bag.keep fun a i => upd_ne (fun e => nb (by rw [← e]; exact i)), g.nz, fun a z => by
    by_cases e : a = p
    · subst e; exact ⟨_, upd_same⟩
    · obtain ⟨u, h⟩ := g.tr a z
      exact ⟨u, by rw [upd_ne e]; exact h⟩⟩
section
variable {X : Cx} {W : WX} {G : Bg} {c c1 c2 : Nat} {a b e k v : Expr} {ta tb : RE} {pos : Pos}
theorem je_disp1 (hu : X.A.units + 65 < cLine) (ha : JE X W G c1 k ta) (hb : JE X W G c2 v tb) : JE X W G (c1 + c2) (.Dict [some k] [v] pos) (r2 ta tb gDisp1) := by
  refine peImp (pe_disp1 (by omega) ha hb) fun σ H Q h p hp => ?_
  obtain ⟨n, Z, env, Q', E', pr, w, t, q, x⟩ := h
  have nbp : ¬ inB G p := fun i => by
    obtain ⟨o, e⟩ := pr.gd.bag.tracked i
    rw [hp] at e; cases e
  have nZp : ¬ Z p := fun z => by
    obtain ⟨o, e⟩ := pr.gd.tr p z
    rw [hp] at e; cases e
  have s0 : Stp G [] Z H [] Z (upd H p (.dT [])) [p] := Stp.new hp fun a m => .inr (by simpa using m)
  refine ⟨n, Z, env, _, E', ⟨pr.gd.new hp, by have := pr.le; omega⟩, w.step pr.gd s0, t, fun dx u fx Z1 H1 r1 o1 t1 => ?_, fun y cls da Z1 H1 r xr e1 => x y cls da Z1 H1 ⟨s0.drop.trans r.st (fun a m => nomatch m), r.gd.up (by omega)⟩ xr e1⟩
  have hp1 : H1 p = some (.dT []) := r1.st.keep p _ upd_same nbp (fun m => nomatch m)
  refine ⟨n + c1, Z1, env, _, E', ⟨r1.gd, by have := pr.le; omega⟩, (w.step pr.gd s0).step (pr.gd.new hp) r1.nofp.st, t1, fun dy u2 fy Z2 H2 r2 o2 t2 => ?_, fun y cls da Z2 H2 r xr e1 => x y cls da Z2 H2 ⟨(s0.drop.trans r1.nofp.st (fun a m => nomatch m)).trans r.st (fun a m => nomatch m), r.gd.up (by omega)⟩ xr e1⟩
  have hp2 : H2 p = some (.dT []) := r2.st.keep p _ hp1 nbp (fun m => nomatch m)
  unfold gDisp1 at t2
  split at t2
  · rename_i kk hk
    obtain ⟨b, eb, hb, efx⟩ := rp_key hk (o1.step r1.gd r2.st).rp
    subst efx
    refine ⟨b, kk, hp2, eb, hb, ?_⟩
    have nf : p ∉ fy := fun m => by
      rcases r2.st.fn p m with z | z
      · cases z
      · rw [hp1] at z; cases z
    have nZ1 : ¬ Z1 p := fun z => by
      rcases r1.st.zn p z with z | z | z
      · exact nZp z
      · cases z
      · rw [upd_same] at z; cases z
    have nZ2 : ¬ Z2 p := fun z => by
      rcases r2.st.zn p z with z | z | z
      · exact nZ1 z
      · cases z
      · rw [hp1] at z; cases z
    have sA : Stp G [] Z H [] Z2 H2 (([p] ++ []) ++ fy) := (s0.par r1.st).par r2.st
    have sB := sA.trans (Stp.over (G := G) (Z := Z2) (H := H2) (o := .dT [(kk, u2)]) (A := ([p] ++ []) ++ fy) (A' := p :: fy) (p := p) fun a m => by simpa using m) (fun a m => .inr (by
      have : a = p := by simpa using m
      rw [this]; exact hp))
    refine q (.dcT true [kk] [dy]) _ (p :: fy) Z2 _ ⟨sB, ?_⟩ ⟨⟨p, [u2], fy, rfl, upd_same, ⟨rfl, by simp⟩, RpL.one (Rp.keep (fun _ z => z) _ _ _ (fun a o h cs => ?_) o2.rp), rfl⟩, List.nodup_cons.mpr ⟨nf, o2.nd⟩, fun a m => ?_, fun a m => ?_⟩ t2
    · have g3 := r2.gd.over (o := .dT [(kk, u2)]) nbp
      rw [← Nat.add_assoc]
      exact g3
    · by_cases e : a = p
      · subst e
        rw [hp2] at h; cases h
        rcases cs with cs | cs | cs
        · exact absurd trivial cs
        · exact absurd cs nZ2
        · exact absurd cs nf
      · rw [upd_ne e]; exact h
    · rcases List.mem_cons.mp m with m | m
      · rw [m]; exact nZ2
      · exact o2.nz a m
    · rcases List.mem_cons.mp m with m | m
      · rw [m]; exact nbp
      · exact o2.nb a m
  · exact t2.elim
end
end TT

set_option Elab.async false
set_option linter.all false
set_option maxRecDepth 100000
set_option maxHeartbeats 1000000
namespace TT
open PySem PySem.Spec PyProof.Rows L2
/-- classes of one's own that a clause meets -/
def exs (L : List Str) : Str → Option Bool := fun x => if L.any (fun y => decide (y = x)) then some true else none
theorem exs_mem {L : List Str} {x : Str} {b : Bool} (h : exs L x = some b) : b = true ∧ x ∈ L := by
  unfold exs at h
  split at h
  · rename_i e
    cases h
    refine ⟨rfl, ?_⟩
    simpa using e
  · cases h
theorem fam1 {X : Cx} {cx qn : Str} {C fI : Addr} (T : PySem.OwnX.OwnTxt cx qn X.K X.mg C fI) : Fam X (.ref C) (exs [cx]) := ⟨fun x b cls hx hm => by
  obtain ⟨e1, e2⟩ := exs_mem hx
  have e2 : x = cx := by simpa using e2
  subst e1 e2
  rw [T.gC] at hm
  cases hm
  exact T.te⟩
theorem nm_own {X : Cx} {cx qn : Str} {C fI : Addr} (T : PySem.OwnX.OwnTxt cx qn X.K X.mg C fI) (hg : Gl X cx) (hd : (cx == ("__debug__" : Str)) = false := by decide) : Names X cx (.ref C) := ⟨hg, hd, .inl T.gC⟩
/-- the family's members each with their own text: what is raised is told by the class met -/
theorem zc_own {mg : Str → Option Value} {K : PySem.W.Frag} {cx qn y : Str} {C fI : Addr} {cls : Value} {oe : Obj} {dd : Option Addr} (T : PySem.OwnX.OwnTxt cx qn K mg C fI) (hy : exs [cx] y = some true) (hm : mg y = some cls) (hz : Zc cls dd oe) : Zc (.ref C) dd oe := by
  obtain ⟨_, e2⟩ := exs_mem hy
  have e2 : y = cx := by simpa using e2
  subst e2
  rw [T.gC] at hm
  cases hm
  exact hz
theorem exm_self {K : PySem.W.Frag} {S : Addr} (h1 : PySem.W.subIn K (.ref S) (.type "BaseException") = some true) (h2 : PySem.W.isClsIn K S = true) (h3 : PySem.W.typeIn K (.ref S) = some (.type "type")) (h4 : PySem.W.subIn K (.ref S) (.ref S) = some true) :
    PySem.W.exmOne K (.ref S) (.ref S) = some true := by
  have e1 : (PySem.W.subIn K (.ref S) (.type "BaseException") == some true) = true := by rw [h1] <;> rfl
  have e2 : ((PySem.W.clsIn K S).isSome && PySem.W.typeIn K (.ref S) == some (.type "type")) = true := by
    have h2' : (PySem.W.clsIn K S).isSome = true := h2
    rw [h2', h3] <;> rfl
  show (if (PySem.W.subIn K (.ref S) (.type "BaseException") == some true) = true then (if ((PySem.W.clsIn K S).isSome && PySem.W.typeIn K (.ref S) == some (.type "type")) = true then PySem.W.subIn K (.ref S) (.ref S) else none) else none) = some true
  rw [if_pos e1, if_pos e2]
  exact h4
end TT

set_option Elab.async false
set_option linter.all false
set_option maxRecDepth 100000
set_option maxHeartbeats 1000000
namespace TT
open PySem PySem.Spec PyProof.Rows L2
/-- ** with a result below a million bits -/
def CPowW (i j : Int) : Prop := 0 ≤ j ∧ j ≤ 100 ∧ i.natAbs.log2 < 1000000
section
variable {X : Cx}
theorem op_powW : OpR X (binaryOp .Pow) (rI CPowW fun i j => .int (i ^ j.toNat)) := opI fun i j _ _ _ _ _ hc q => by
  refine pow_int hc.1 ?_ q
  have b : Builtin.Int.intBits i ≤ i.natAbs.log2 + 1 := by
    unfold Builtin.Int.intBits
    split <;> omega
  have h2 := hc.2.1
  have h3 := hc.2.2
  have h1 := hc.1
  have hb : (Builtin.Int.intBits i : Int) ≤ 1000000 := by omega
  have : (Builtin.Int.intBits i : Int) * j ≤ 1000000 * 100 := Int.mul_le_mul hb h2 h1 (by decide)
  omega
end
theorem powW_of {i j : Int} {a : Nat} (h0 : 0 ≤ j) (h1 : j ≤ 100) (ha : i.natAbs < 2 ^ a) (hp : 0 < a) (hs : a ≤ 1000000) : CPowW i j := ⟨h0, h1, Nat.lt_of_lt_of_le (PySem.Flt.log2_lt_of hp ha) hs⟩
end TT

set_option Elab.async false
set_option linter.all false
set_option maxRecDepth 100000
set_option maxHeartbeats 1000000
namespace TT
open PySem PySem.Spec PyProof.Rows L2
/-! ### the law's call, where no repr is on its way -/
/-- what is tracked at first: the script, or nothing -/
def H0s (K : PySem.W.Frag) (a : Addr) (o : Obj) (xs : List V) : Hp := fun b => if K.lookup a = none ∧ b = a then some (.frz o (.lst xs)) else none
theorem H0s.cases {K : PySem.W.Frag} {a b : Addr} {o : Obj} {xs : List V} : (H0s K a o xs b = none ∧ (b = a → K.lookup a ≠ none)) ∨ (H0s K a o xs b = some (.frz o (.lst xs)) ∧ b = a ∧ K.lookup a = none) := by
  unfold H0s
  by_cases h : K.lookup a = none ∧ b = a
  · rw [if_pos h]; exact .inr ⟨rfl, h.2, h.1⟩
  · rw [if_neg h]; exact .inl ⟨rfl, fun e n => h ⟨n, e⟩⟩
section
variable {P : Program} {w : World} {K : PySem.W.Frag} {mg mb : Str → Option Value} {T : CXT} {k : Nat} {fa a : Addr} {fd : FuncData} {x : Str} {sp : Sp} {s₁ : Shared} {us : List Value} {ns : List Int}
theorem law_callG (KX : K.In s₁.heap) (hns : s₁.heap.Ns mainGlobals mg) (hb : s₁.heap.Ns builtinsNs mb) (hbb : ∀ y : Str, y ≠ "__name__" → mb y = bootBuiltins y) (hlim : s₁.heap.NoLimit) (hg : s₁.gens = #[])
    (ha : s₁.heap.get? a = some { cls := .type "list", data := .seq us.toArray }) (hi : IntsAre us ns) (hl : ns.length ≤ sizeLine) (hr : RoomG k callerA) (F : ∀ base : Heap, K.In base → base.Ns mainGlobals mg → FnG P w K mg base T k fa fd [x] sp)
    (hbind : ∀ (s : Shared) (u : Value), BindsTo s fd ⟨[u], []⟩ [(x, u)]) (hsp : ∀ H : Hp, Only H → SqL K H a (ns.map V.int) → sp [.ref a] H (fun v _ => v = .bl true) fun _ _ _ => False) (hT : ∀ H e s2, T [] H s₁ (fun _ _ _ => False) e s2 → False) :
    codeAny (model P w) callerA (.call (.ref fa) ⟨[.ref a], []⟩) (fun r s2 => r = .ok (.ret (.bool true)) ∧ OldK s₁.heap s2.heap ∧ s2.os = s₁.os ∧ AllBare s2.gens) s₁ := by
  have rv := vals_ints hi
  have hlu := hi.length
  obtain ⟨O, eO⟩ : ∃ O : Obj, O = { cls := .type "list", data := .seq us.toArray } := ⟨_, rfl⟩
  obtain ⟨H, eH⟩ : ∃ H : Hp, H = H0s K a O (ns.map V.int) := ⟨_, rfl⟩
  have cs : ∀ b, (H b = none ∧ (b = a → K.lookup a ≠ none)) ∨ (H b = some (.frz O (.lst (ns.map V.int))) ∧ b = a ∧ K.lookup a = none) := fun b => by
    rw [eH]; exact H0s.cases
  have hok : HOk P w H s₁.heap := fun b u z => by
    rcases cs b with ⟨c, _⟩ | ⟨c, eb, _⟩
    · rw [c] at z; cases z
    · rw [c] at z
      cases z
      rw [eb, eO]
      exact ⟨ha, by rw [List.length_map]; exact hl, us, _, rv, ha⟩
  have only : Only H := fun b => (cs b).imp (fun c => c.1) fun c => ⟨_, _, c.1⟩
  have sq : SqL K H a (ns.map V.int) := by
    rcases cs a with ⟨_, c⟩ | ⟨c, _⟩
    · cases hk : K.lookup a with
      | none => exact absurd hk (c rfl)
      | some o =>
        have e := (KX a o hk).symm.trans ha
        cases e
        exact .inr ⟨_, us.toArray, _, hk, rfl, rfl, rfl, by rw [List.size_toArray, hlu]; exact hl, by simpa using rv⟩
    · exact .inl (.inr ⟨_, c⟩)
  -- what is not tracked is in the hidden heap
  have hid : ∀ {b : Addr} {o : Obj}, s₁.heap.get? b = some o → H b = none → (hidT s₁.heap H).get? b = some o := fun e z => hidT_get e z
  have nd : ∀ {b : Addr} {o : Obj} {es : Array DictEntry} {ep : Nat}, s₁.heap.get? b = some o → o.data = .dict es ep → H b = none := fun {b o es ep} e d => by
    rcases cs b with ⟨c, _⟩ | ⟨_, eb, _⟩
    · exact c
    · rw [eb, ha] at e
      cases e
      cases (show Data.seq us.toArray _ = Data.dict es ep from d)
  have hNs : ∀ {b : Addr} {m : Str → Option Value}, s₁.heap.Ns b m → (hidT s₁.heap H).Ns b m := fun {b m} ⟨o, es, ep, e, d, r⟩ => ⟨o, es, ep, hid e (nd e d), d, r⟩
  have kin : K.In (hidT s₁.heap H) := fun b o e => hid (KX b o e) (by
    rcases cs b with ⟨c, _⟩ | ⟨_, eb, n⟩
    · exact c
    · rw [eb, n] at e; cases e)
  obtain ⟨ml, l1, l2⟩ := hlim
  have env : Env0 P w K mg (hidT s₁.heap H) callerA [] s₁ H :=
    ⟨rfl, ⟨kin, hNs hns, ⟨mb, hNs hb, hbb⟩, ⟨ml, hNs l1, l2⟩⟩, fun b o e => of_hidT e, Nat.le_of_eq (hidT_size _ _), trivial, fun b z => absurd (show b ∈ ([] : List Addr) from z) (by simp), hok, .of_eq hg⟩
  refine codeAny_mono ((F _ kin (hNs hns)).run callerA [] s₁ H ⟨[.ref a], []⟩ [.ref a] [.ref a] _ _ hr env (hbind s₁ (.ref a)) (.cons rfl .nil) (hsp H only sq)) fun r s2 h => ?_
  match r, h with
  | .error e, h => exact (hT H e s2 h).elim
  | .ok .next, h => exact h.elim
  | .ok .brk, h => exact h.elim
  | .ok .cont, h => exact h.elim
  | .ok (.ret u), ⟨v, H2, os, bare, un, hok2, r2, q⟩ =>
    have q : v = .bl true := q
    subst q
    obtain rfl : u = Value.bool true := r2
    refine ⟨rfl, OldK.of_keep fun b o e => ?_, os, bare⟩
    rcases cs b with ⟨c, _⟩ | ⟨c, eb, _⟩
    · exact un.keep b o e c (fun z => absurd (show b ∈ ([] : List Addr) from z) (by simp)) (by simp)
    · have e1 := (hok b _ c).1
      rw [e1] at e
      cases e
      exact (hok2 b _ (un.frzs b _ _ c)).1
end
theorem walk_g {l : PySem.W.OpenLaw} {n k : Nat} {q : Program} {loose : List Str} {XP : (Str → Option Value) → Heap → Prop} {YP : World → Heap → Prop} {d : DefRec} {K : Params → PySem.W.Frag} {T : World → CXT} {sp : World → Sp} {x : Str}
    (hn : l.most = some n) (hn2 : n ≤ sizeLine) (hdf : d.params.defaults = []) (hr : RoomG k callerA) (hY : ∀ (w : World) (h : Heap), YP w h → (K w.params).In h)
    (F : ∀ (w : World) (mg : Str → Option Value) (fa : Addr) (h : Heap), (K w.params).In h → h.Ns mainGlobals mg → mg d.name = some (.ref fa) → ∃ fd : FuncData, (∀ (s : Shared) (u : Value), BindsTo s fd ⟨[u], []⟩ [(x, u)]) ∧
      ∀ base : Heap, (K w.params).In base → base.Ns mainGlobals mg → FnG l.prog w (K w.params) mg base (T w) k fa fd [x] (sp w))
    (hsp : ∀ (w : World) (H : Hp) (a : Addr) (ns : List Int), ns.length ≤ n → Only H → SqL (K w.params) H a (ns.map V.int) → sp w [.ref a] H (fun v _ => v = .bl true) fun _ _ _ => False)
    (hT : ∀ (w : World) (H : Hp) (s : Shared) (e : Value) (s2 : Shared), T w [] H s (fun _ _ _ => False) e s2 → False) : PySem.W.WalkO q loose XP YP l.row.toRowW d [] (fun f vs => PySem.call f vs) := by
  refine Att.attach_call hn hdf fun w s₀ s₁ mg mb fa o pm cd doc a us ns G Y _ _ _ hmg hobj hints hlen hgens => ?_
  obtain ⟨fd, hbd, hF⟩ := F w mg fa _ (hY w _ Y) G.T.g hmg
  exact law_callG (hY w _ Y) G.T.g G.T.b G.T.builtins G.T.nolimit hgens hobj hints (Nat.le_trans hlen hn2) hr hF hbd (fun H hO hS => hsp w H a ns hlen hO hS) fun H e s2 => hT w H s₁ e s2
end TT

set_option Elab.async false
set_option linter.all false
set_option maxRecDepth 100000
set_option maxHeartbeats 1000000
namespace TT
open PySem PySem.Spec PyProof.Rows L2
/-! ### repr of plain data -/
mutual
/-- plain data of numbers below 10 ** 12 and texts -/
def okS : D → Bool
  | .non => true
  | .bl _ => true
  | .int i => decide (i.natAbs < 10 ^ 12)
  | .str x => PyData.strOk x
  | .tup ds => okSL ds
  | .lst _ ds => okSL ds
  | _ => false
def okSL : List D → Bool
  | [] => true
  | d :: ds => okS d && okSL ds
end
mutual
def wtD : D → Nat
  | .int _ => 64
  | .str x => x.cps.size
  | .tup ds => wtL ds
  | .lst _ ds => wtL ds
  | _ => 0
def wtL : List D → Nat
  | [] => 0
  | d :: ds => wtD d + 1 + wtL ds
end
theorem log2_12 {n : Nat} (h : n < 10 ^ 12) : n.log2 + 1 ≤ 64 := by
  by_cases z : n = 0
  · subst z; decide
  · have : n < 2 ^ 63 := Nat.lt_trans h (by decide)
    have := (Nat.log2_lt z).mpr this
    omega
mutual
theorem okS_py : ∀ d : D, okS d = true → (py d).canLay0 = true ∧ (py d).intsShort 13 = true ∧ (py d).showable = true ∧ (py d).weight ≤ wtD d
  | .non, _ => ⟨rfl, rfl, rfl, Nat.le_refl _⟩
  | .bl _, _ => ⟨rfl, rfl, rfl, Nat.le_refl _⟩
  | .int i, h => by
    have h : i.natAbs < 10 ^ 12 := by simpa [okS] using h
    have hl := log2_12 h
    refine ⟨rfl, ?_, ?_, ?_⟩
    · show decide ((PyData.shown (.int i)).length ≤ 13) = true
      exact decide_eq_true (PyData.shown_int_le h)
    · show decide (i.natAbs.log2 < 1920) = true
      exact decide_eq_true (by omega)
    · show (if i == 0 then 0 else i.natAbs.log2 + 1) ≤ 64
      split <;> omega
  | .str x, h => ⟨by simpa [py, PyData.canLay0, okS] using h, rfl, rfl, Nat.le_refl _⟩
  | .tup ds, h => by
    obtain ⟨a, b, c, d⟩ := okSL_py ds (by simpa [okS] using h)
    exact ⟨by simpa [py, PyData.canLay0] using a, by simpa [py, PyData.intsShort] using b, by simpa [py, PyData.showable] using c, by simpa [py, PyData.weight, wtD] using d⟩
  | .lst _ ds, h => by
    obtain ⟨a, b, c, d⟩ := okSL_py ds (by simpa [okS] using h)
    exact ⟨by simpa [py, PyData.canLay0] using a, by simpa [py, PyData.intsShort] using b, by simpa [py, PyData.showable] using c, by simpa [py, PyData.weight, wtD] using d⟩
  | .dct _ _ _, h => by simp [okS] at h
  | .dcT _ _ _, h => by simp [okS] at h
  | .bag, h => by simp [okS] at h
  | .scr _, h => by simp [okS] at h
  | .exc _ _ _, h => by simp [okS] at h
  | .err _ _, h => by simp [okS] at h
theorem okSL_py : ∀ ds : List D, okSL ds = true → PyData.canLayAll0 (pyL ds) = true ∧ PyData.intsShortAll 13 (pyL ds) = true ∧ PyData.showableAll (pyL ds) = true ∧ PyData.weightAll (pyL ds) ≤ wtL ds
  | [], _ => ⟨rfl, rfl, rfl, Nat.le_refl _⟩
  | d :: ds, h => by
    have h : (okS d && okSL ds) = true := by simpa [okSL] using h
    rw [Bool.and_eq_true] at h
    obtain ⟨a1, b1, c1, d1⟩ := okS_py d h.1
    obtain ⟨a2, b2, c2, d2⟩ := okSL_py ds h.2
    refine ⟨by simp [pyL, PyData.canLayAll0, a1, a2], by simp [pyL, PyData.intsShortAll, b1, b2], by simp [pyL, PyData.showableAll, c1, c2], ?_⟩
    show (py d).weight + 1 + PyData.weightAll (pyL ds) ≤ wtD d + 1 + wtL ds
    omega
end
def shw (d : D) : Str := (py d).shown
def isBox : D → Bool
  | .tup _ => true
  | .lst _ _ => true
  | _ => false
def gReprG : List D → (D → Prop) → Prop := fun ds Q => match ds with
  | [.bl b] => Q (.str (if b then "True" else "False"))
  | [d] => isBox d = true ∧ sm 60 d = true ∧ okS d = true ∧ wtD d ≤ 2 ^ 20 ∧ Q (.str (shw d))
  | _ => False
def rReprG (K : PySem.W.Frag) : List V → Hp → VK → Prop := fun xs H Q => (∃ b, xs = [.bl b] ∧ Q (.str (if b then "True" else "False")) H) ∨
  ∃ a d, xs = [.ref a] ∧ Dp K H (.ref a) d ∧ PyData.layable0 d = true ∧ d.intsShort 13 = true ∧ d.showable = true ∧ d.depth ≤ 60 ∧ Q (.str d.shown) H
theorem call_reprG {X : Cx} (hg : X.A.guards = some []) (hu : X.A.units + 65 < cLine) : CallR X (.builtin "repr") (rReprG X.K) := by
  intro pins s σ H xs us Q I r h
  rcases h with ⟨b, e, q⟩ | ⟨a, d, e, hd, hl, hi, hs, hdp, q⟩
  · exact call_reprB pins s σ H xs us Q I r ⟨b, e, q⟩
  · subst e
    obtain ⟨u, rfl, ru⟩ := vals1 r
    obtain ⟨as, hr⟩ := Dp.reads I d _ u hd ru
    obtain rfl : u = Value.ref a := ru
    have hz := shown_le13 hl hi
    refine PySem.repr_of_reads' hr hs (PyData.noDict_hsm (PyData.hasDict_of_layable hl)) hg (by omega) (fun _ _ e => e) (fun h' u tk hk => ?_) (by rw [sizeLine_eq]; omega)
    exact ⟨.str d.shown, H, I.kept hk, ⟨_, rfl⟩, q⟩
theorem v_reprG {X : Cx} {G : Bg} : VOpL X G (rReprG X.K) gReprG := by
  intro n Z H ds xs fx Q' Q g0 o t q
  unfold gReprG at t
  split at t
  · rename_i b
    obtain ⟨v, e, o1⟩ := obL1 o
    have e1 : v = .bl b := o1.rp.1
    exact .inl ⟨b, by rw [e, e1], vdone (d := .str (if b then "True" else "False")) g0 q ⟨rfl, rfl⟩ t⟩
  · rename_i d _
    obtain ⟨v, e, o1⟩ := obL1 o
    obtain ⟨hb, hsm, hok, hw, t⟩ := t
    have hdp := rp_dp 60 d v _ hsm o1.rp
    obtain ⟨c1, c2, c3, c4⟩ := okS_py d hok
    have c5 := (sm_plain 60 d hsm).2
    obtain ⟨a, ea⟩ : ∃ a, v = .ref a := by
      cases d with
      | tup ds => obtain ⟨a, vs, e, _⟩ := o1.rp; exact ⟨a, e⟩
      | lst ow ds => cases ow with
        | true => obtain ⟨a, vs, fp', e, _⟩ := o1.rp; exact ⟨a, e⟩
        | false => obtain ⟨a, vs, e, _⟩ := o1.rp; exact ⟨a, e⟩
      | _ => simp [isBox] at hb
    subst ea
    refine .inr ⟨a, py d, e, hdp, ?_, c2, c3, c5, vdone (d := .str (shw d)) g0 q ⟨rfl, rfl⟩ t⟩
    show (PyData.canLay0 (py d) && decide (PyData.depth (py d) ≤ 64) && decide (PyData.weight (py d) ≤ 2 ^ 20)) = true
    rw [c1, decide_eq_true (show (py d).depth ≤ 64 by omega), decide_eq_true (show (py d).weight ≤ 2 ^ 20 by omega)]
    rfl
  · exact t.elim
end TT

set_option Elab.async false
set_option linter.all false
set_option maxRecDepth 100000
set_option maxHeartbeats 1000000
namespace TT
open PySem PySem.Spec PyProof.Rows L2
/-! ### for i, x in enumerate(xs) -/
def enumD (k : Nat) : List D → List D
  | [] => []
  | d :: ds => .tup [.int (k : Nat), d] :: enumD (k + 1) ds
theorem enumD_len : ∀ (k : Nat) (ds : List D), (enumD k ds).length = ds.length
  | _, [] => rfl
  | k, d :: ds => congrArg (· + 1) (enumD_len (k + 1) ds)
theorem enumD_at : ∀ (k : Nat) (ds : List D) (i : Nat) (d : D), (enumD k ds)[i]? = some d → ∃ x, ds[i]? = some x ∧ d = .tup [.int ((k + i : Nat) : Int), x]
  | _, [], i, d, h => by simp [enumD] at h
  | k, x :: ds, 0, d, h => ⟨x, rfl, (Option.some.inj h).symm⟩
  | k, x :: ds, i + 1, d, h => by
    obtain ⟨y, e1, e2⟩ := enumD_at (k + 1) ds i d h
    exact ⟨y, e1, by rw [e2, show k + 1 + i = k + (i + 1) by omega]⟩
def iEnu : List D → (List D → Prop) → Prop := fun ds Q => match ds with
  | [.lst _ xs] => Q (enumD 0 (frzL xs))
  | _ => False
section
variable {X : Cx} {W : WX} {G : Bg} {c : Nat} {e : Expr} {pos p tpos : Pos} {elts : List Expr} {kk : Nat} {ta : RA}
theorem wlk_enum {K : PySem.W.Frag} {Z : Zs} {H : Hp} {a : Addr} {vs : List V} {ds : List D} (h : H a = some (.lst vs)) (z : Z a) (r : RpL K G Z H ds vs []) : Wlk K G (Ite K a) (enumD 0 ds) Z H where
  go := fun Z2 H2 i l hi => ⟨vs, vs[i]'(by rw [r.len]; rw [enumD_len] at hi; exact hi), sqLLater l h z, List.getElem?_eq_getElem _⟩
  yl := fun Z2 H2 n i x H' d l g hd hy => by
    obtain ⟨T, x0, e, hT, eH, f⟩ := hy
    subst e eH
    obtain ⟨y, hy, ed⟩ := enumD_at 0 ds i d hd
    subst ed
    obtain ⟨v, e1, rp⟩ := r.get0 hy
    have q := f vs (sqLLater l h z)
    rw [e1] at q
    cases q
    rw [Nat.zero_add]
    refine ⟨Stp.fresh hT, g.new hT, T, _, rfl, upd_same, .int (i : Nat), [_], [], [], rfl, ⟨rfl, rfl⟩, RpL.one (rp_upd (rpLater l rp) hT), rfl⟩
  st := fun Z2 H2 l => ⟨vs, sqLLater l h z, by rw [r.len, enumD_len]; exact Nat.le_refl _⟩
theorem ji_enum (hg : Gl X "enumerate") (hm : X.mg "enumerate" = none) (ha : JA X W G c [e] ta) (hs : starEach [e] X.env = [(false, eval e X.env)] := by rfl) :
    JI X W G c (.Tuple elts kk tpos) (.Call (.Name "enumerate" p) [e] [] pos) (fun env Q E => ta env (fun ds => iEnu ds Q) E) := piImp (pi_enum hg hm ha hs) fun σ H R h => by
  obtain ⟨n, Z, env, Q', E', pr, w, t, q, x⟩ := h
  refine ⟨n, Z, env, _, E', pr, w, t, fun ds us fp Z1 H1 r1 o1 t1 => ?_, x⟩
  unfold iEnu at t1
  split at t1
  · rename_i ow xs
    obtain ⟨v, e, o⟩ := obL1 o1
    obtain ⟨g2, o2, s2⟩ := o.share r1.gd
    have r2 := r1.op s2 g2
    obtain ⟨a, vs, ev, hr, hz, rr, _⟩ := o2
    exact ⟨a, vs, by rw [e, ev], .inl (.inl hr), q _ _ _ H1 r2 (wlk_enum hr hz rr) t1⟩
  · exact t1.elim
end
/-! ### xs[a:], xs[:b] -/
def gSlLo : D → D → (D → Prop) → Prop := fun x y Q => match x, y with
  | .lst _ ds, .int i => 0 ≤ i ∧ Q (.lst true ((frzL ds).drop i.toNat))
  | _, _ => False
def gSlHi : D → D → (D → Prop) → Prop := fun x y Q => match x, y with
  | .lst _ ds, .int i => 0 ≤ i ∧ Q (.lst true ((frzL ds).take i.toNat))
  | _, _ => False
theorem cut_lo {xs : List V} {i : Int} (h : 0 ≤ i) : cutV xs (some i) none = xs.drop i.toNat := by
  obtain ⟨k, rfl⟩ := Int.eq_ofNat_of_zero_le h
  unfold cutV
  rw [HT.sIx_nat, HT.sIx_none]
  by_cases hk : k ≤ xs.length
  · rw [Nat.min_eq_left hk]
    show (xs.drop k).take (xs.length - k) = xs.drop k
    exact List.take_of_length_le (by rw [List.length_drop]; exact Nat.le_refl _)
  · rw [Nat.min_eq_right (by omega), List.drop_length, List.take_nil]
    exact (List.drop_eq_nil_of_le (by show xs.length ≤ k; omega)).symm
theorem cut_hi {xs : List V} {i : Int} (h : 0 ≤ i) : cutV xs none (some i) = xs.take i.toNat := by
  obtain ⟨k, rfl⟩ := Int.eq_ofNat_of_zero_le h
  unfold cutV
  rw [HT.sIx_nat, HT.sIx_none, List.drop_zero, Nat.sub_zero]
  by_cases hk : k ≤ xs.length
  · rw [Nat.min_eq_left hk]; rfl
  · rw [Nat.min_eq_right (by omega), List.take_length]
    exact (List.take_of_length_le (by show xs.length ≤ k; omega)).symm
theorem RpL.take {K : PySem.W.Frag} {G : Bg} {Z : Zs} {H : Hp} : ∀ {ds : List D} {vs : List V} (k : Nat), RpL K G Z H ds vs [] → RpL K G Z H (ds.take k) (vs.take k) []
  | ds, vs, 0, _ => by rw [List.take_zero, List.take_zero]; exact ⟨rfl, rfl⟩
  | [], vs, k + 1, r => by rw [r.1]; exact ⟨rfl, rfl⟩
  | d :: ds, vs, k + 1, ⟨v, vs', f1, f2, e, r, rs, ef⟩ => by
    have ef := List.append_eq_nil_iff.mp ef.symm
    obtain ⟨e1, e2⟩ := ef
    subst e e1 e2
    exact ⟨v, vs'.take k, [], [], rfl, r, RpL.take k rs, rfl⟩
theorem RpL.drop {K : PySem.W.Frag} {G : Bg} {Z : Zs} {H : Hp} : ∀ {ds : List D} {vs : List V} (k : Nat), RpL K G Z H ds vs [] → RpL K G Z H (ds.drop k) (vs.drop k) []
  | ds, vs, 0, r => r
  | [], vs, k + 1, r => by rw [r.1]; exact ⟨rfl, rfl⟩
  | d :: ds, vs, k + 1, ⟨v, vs', f1, f2, e, r, rs, ef⟩ => by
    have ef := List.append_eq_nil_iff.mp ef.symm
    obtain ⟨e1, e2⟩ := ef
    subst e e1 e2
    exact RpL.drop k rs
section
variable {X : Cx} {W : WX} {G : Bg} {c c1 c2 : Nat} {a b e : Expr} {ta tb : RE} {pos p2 : Pos}
theorem v_slLo : VOp2 X G (fun x y H Q => ∃ i, y = .int i ∧ rSlL X.K x (some i) none H Q) gSlLo := by
  intro n Z H dx x fx dy y fy Q' Q g ox oy ap t q
  unfold gSlLo at t
  split at t
  · rename_i ow ds i
    obtain ⟨g2, o2, s2⟩ := ox.share g
    obtain ⟨l, vs, ev, hr, hz, rr, _⟩ := o2
    obtain ⟨ey, efy⟩ := oy.rp
    subst ev ey efy
    refine ⟨i, rfl, l, vs, rfl, .inl (.inl hr), fun k hk => ?_⟩
    rw [cut_lo t.1]
    have o3 : ObL X.K G (fun b => Z b ∨ b ∈ fx) H ((frzL ds).drop i.toNat) (vs.drop i.toNat) [] := ⟨rr.drop _, List.nodup_nil, (fun _ m => nomatch m), (fun _ m => nomatch m)⟩
    refine q _ _ (k :: []) _ _ ?_ (g2.new hk) (ob_lst g2 o3 hk) t.2
    rw [List.append_nil]
    exact s2.trans (Stp.new (M := []) hk fun b m => .inr (by simpa using m)) (fun _ m => (nomatch m))
  · exact t.elim
theorem v_slHi : VOp2 X G (fun x y H Q => ∃ i, y = .int i ∧ rSlL X.K x none (some i) H Q) gSlHi := by
  intro n Z H dx x fx dy y fy Q' Q g ox oy ap t q
  unfold gSlHi at t
  split at t
  · rename_i ow ds i
    obtain ⟨g2, o2, s2⟩ := ox.share g
    obtain ⟨l, vs, ev, hr, hz, rr, _⟩ := o2
    obtain ⟨ey, efy⟩ := oy.rp
    subst ev ey efy
    refine ⟨i, rfl, l, vs, rfl, .inl (.inl hr), fun k hk => ?_⟩
    rw [cut_hi t.1]
    have o3 : ObL X.K G (fun b => Z b ∨ b ∈ fx) H ((frzL ds).take i.toNat) (vs.take i.toNat) [] := ⟨rr.take _, List.nodup_nil, (fun _ m => nomatch m), (fun _ m => nomatch m)⟩
    refine q _ _ (k :: []) _ _ ?_ (g2.new hk) (ob_lst g2 o3 hk) t.2
    rw [List.append_nil]
    exact s2.trans (Stp.new (M := []) hk fun b m => .inr (by simpa using m)) (fun _ m => (nomatch m))
  · exact t.elim
theorem je_slLo (ha : JE X W G c1 a ta) (hb : JE X W G c2 b tb) : JE X W G (c1 + c2) (.Subscript a (.Slice (some b) none none p2) pos) (r2 ta tb gSlLo) :=
  peImp (pe_slice sl_list ha (po_some hb) po_none) (tOp_of v_slLo)
theorem je_slHi (ha : JE X W G c1 a ta) (hb : JE X W G c2 b tb) : JE X W G (c1 + c2) (.Subscript a (.Slice none (some b) none p2) pos) (r2 ta tb gSlHi) :=
  peImp (pe_slice sl_list ha po_none (po_some hb)) (tOp_of v_slHi)
/-- -1 as a place -/
theorem pe_m1 {j : Nat} {p1 : Pos} : PE X (.UnaryOp .USub (.Constant (.int 1) j p1) pos) (tC (.int (-1))) := peImp (pe_un un_neg pe_int) fun σ H Q h => ⟨1, rfl, h⟩
end
end TT

set_option Elab.async false
set_option linter.all false
set_option maxRecDepth 100000
set_option maxHeartbeats 1000000
namespace TT
open PySem PySem.Spec PyProof.Rows L2
/-! ### xs[k].append(e), xs and xs[k] one's own -/
theorem RpL.pick {K : PySem.W.Frag} {G : Bg} {Z : Zs} {H : Hp} : ∀ (ds : List D) (vs : List V) (f : List Addr) (q : Nat) (d0 : D), RpL K G Z H ds vs f → ds[q]? = some d0 →
    ∃ v0 f0 fL fR, vs[q]? = some v0 ∧ Rp K G Z H d0 v0 f0 ∧ f = fL ++ (f0 ++ fR) ∧ ∀ (H' : Hp) (d' : D) (f' : List Addr), (∀ b u, H b = some u → (¬ Mut (some u) ∨ Z b ∨ b ∈ fL ++ fR) → H' b = some u) → Rp K G Z H' d' v0 f' → RpL K G Z H' (ds.set q d') vs (fL ++ (f' ++ fR))
  | [], vs, f, q, d0, r, h => by simp at h
  | d :: ds, vs, f, 0, d0, ⟨v, vs', f1, f2, e, r, rs, ef⟩, h => by
    have e0 : d = d0 := Option.some.inj h
    subst e0 e ef
    exact ⟨v, f1, [], f2, rfl, r, rfl, fun H' d' f' k r' => ⟨v, vs', f', f2, rfl, r', RpL.keep (fun _ z => z) _ _ _ (fun b u hb c => k b u hb (c.imp id fun c => c.imp id fun m => by simpa using m)) rs, rfl⟩⟩
  | d :: ds, vs, f, q + 1, d0, ⟨v, vs', f1, f2, e, r, rs, ef⟩, h => by
    subst e ef
    obtain ⟨v0, f0, fL, fR, a1, a2, a3, a4⟩ := RpL.pick ds vs' f2 q d0 rs h
    subst a3
    refine ⟨v0, f0, f1 ++ fL, fR, a1, a2, by simp, fun H' d' f' k r' => ⟨v, vs', f1, fL ++ (f' ++ fR), rfl, Rp.keep (fun _ z => z) _ _ _ (fun b u hb c => k b u hb (c.imp id fun c => c.imp id fun m => by simp [m])) r, a4 H' d' f' (fun b u hb c => k b u hb (c.imp id fun c => c.imp id fun m => ?_)) r', by simp⟩⟩
    rcases List.mem_append.mp m with m | m <;> simp [m]
section
variable {K : PySem.W.Frag} {G : Bg} {n c : Nat} {Z Z1 : Zs} {H H1 : Hp} {A : List Addr} {env1 : Ev} {σ : L2.St} {F1 : List (List Addr)} {d : D} {v : V} {fp : List Addr}
theorem nest_app {ds es : List D} {i q : Nat} (s1 : Stt K G (n + c) Z1 H1 env1 σ F1) (st : Stp G A Z H A Z1 H1 (fp ++ F1.flatten)) (h1 : env1[i]? = some (some (.lst true ds))) (hq : ds[q]? = some (.lst true es)) (o1 : Ob K G Z1 H1 d v fp) (ap : ∀ a ∈ fp, ∀ b ∈ F1.flatten, a ≠ b) :
    ∃ a vs a0 us F2, σ[i]? = some (some (.ref a)) ∧ H1 a = some (.lst vs) ∧ vs.length = ds.length ∧ vs[q]? = some (.ref a0) ∧ H1 a0 = some (.lst us) ∧ us.length = es.length ∧
      Send K G n c Z H A Z1 (env1.set i (some (.lst true (ds.set q (.lst true (es ++ [d])))))) σ (upd H1 a0 (.lst (us ++ [v]))) F2 := by
  obtain ⟨v1, fp1, e3, e4, rp1⟩ := s1.at_ i _ h1
  obtain ⟨a, vs, f, ev1, ha1, rl, ef⟩ := rp1
  subst ef ev1
  obtain ⟨v0, f0, fL, fR, hv0, r0, ef, put⟩ := RpL.pick ds vs f q _ rl hq
  obtain ⟨a0, us, f00, ev0, ha0, ru, ef0⟩ := r0
  subst ev0 ef0 ef
  obtain ⟨nd1, ap1⟩ := flat_drop F1 i _ e4 s1.nd
  have inF : ∀ b ∈ a :: (fL ++ ((a0 :: f00) ++ fR)), b ∈ F1.flatten := memF e4
  have m0 : a0 ∈ a :: (fL ++ ((a0 :: f00) ++ fR)) := by simp
  have nd2 := List.nodup_cons.mp nd1
  have nd3 := List.nodup_append.mp nd2.2
  have nd4 := List.nodup_append.mp nd3.2.1
  have nd5 := List.nodup_cons.mp nd4.1
  have n1 : a0 ∉ fL := fun m => nd3.2.2 a0 m a0 (by simp) rfl
  have n2 : a0 ∉ fR := fun m => nd4.2.2 a0 List.mem_cons_self a0 m rfl
  have n3 : a0 ∉ fp := fun m => ap a0 m a0 (inF a0 m0) rfl
  have n4 : a0 ≠ a := fun e => nd2.1 (by rw [← e]; simp)
  have nZ : ¬ Z1 a0 := s1.nz a0 (inF a0 m0)
  have kR : ∀ (fx : List Addr), a0 ∉ fx → ∀ b u, H1 b = some u → (¬ Mut (some u) ∨ Z1 b ∨ b ∈ fx) → (upd H1 a0 (.lst (us ++ [v]))) b = some u := fun fx hx b u hb cs => by
    refine (upd_ne fun e => ?_).trans hb
    subst e
    rcases cs with cs | cs | cs
    · rw [ha0] at hb; cases hb; exact cs trivial
    · exact nZ cs
    · exact hx cs
  have thU : ∀ b u, H1 b = some u → ∃ u', (upd H1 a0 (.lst (us ++ [v]))) b = some u' := fun b u hb => by
    by_cases hba : b = a0
    · subst hba; exact ⟨_, upd_same⟩
    · exact ⟨u, by rw [upd_ne hba]; exact hb⟩
  have kU : ∀ b u, H1 b = some u → b ∉ [a0] → (upd H1 a0 (.lst (us ++ [v]))) b = some u := fun b u hb nb => by
    rw [upd_ne fun e => nb (by simp [e])]; exact hb
  have r2 : Rp K G Z1 (upd H1 a0 (.lst (us ++ [v]))) (.lst true (es ++ [d])) (.ref a0) (a0 :: (f00 ++ fp)) :=
    ⟨a0, us ++ [v], f00 ++ fp, rfl, upd_same, (RpL.keep (fun _ z => z) _ _ _ (kR f00 nd5.1) ru).app (RpL.one (Rp.keep (fun _ z => z) _ _ _ (kR fp n3) o1.rp)), rfl⟩
  have r3 := put _ _ _ (kR (fL ++ fR) fun m => (List.mem_append.mp m).elim n1 n2) r2
  have pm : (fL ++ ((a0 :: (f00 ++ fp)) ++ fR)).Perm ((fL ++ ((a0 :: f00) ++ fR)) ++ fp) := by
    rw [List.append_assoc]
    refine List.Perm.append_left _ ?_
    rw [← List.cons_append, List.append_assoc, List.append_assoc]
    exact List.Perm.append_left _ List.perm_append_comm
  have sb : ∀ b ∈ fL ++ ((a0 :: (f00 ++ fp)) ++ fR), b ∈ fL ++ ((a0 :: f00) ++ fR) ∨ b ∈ fp := fun b m => List.mem_append.mp (pm.mem_iff.mp m)
  have sub1 : ∀ b ∈ (F1.set i []).flatten, b ∈ F1.flatten := fun b m => flat_set0 b m
  have oN : Ob K G Z1 (upd H1 a0 (.lst (us ++ [v]))) (.lst true (ds.set q (.lst true (es ++ [d])))) (.ref a) (a :: (fL ++ ((a0 :: (f00 ++ fp)) ++ fR))) := by
    refine ⟨⟨a, vs, _, rfl, (upd_ne n4.symm).trans ha1, r3, rfl⟩, ?_, fun b m => ?_, fun b m => ?_⟩
    · refine List.nodup_cons.mpr ⟨fun m => (sb a m).elim nd2.1 fun m => ap a m a (inF a List.mem_cons_self) rfl, pm.nodup_iff.mpr (List.nodup_append.mpr ⟨nd2.2, o1.nd, fun x hx b hb e => ap b hb x (inF x (List.mem_cons_of_mem _ hx)) e.symm⟩)⟩
    · rcases List.mem_cons.mp m with m | m
      · rw [m]; exact s1.nz a (inF a List.mem_cons_self)
      · exact (sb b m).elim (fun m => s1.nz b (inF b (List.mem_cons_of_mem _ m))) (o1.nz b)
    · rcases List.mem_cons.mp m with m | m
      · rw [m]; exact s1.nb a (inF a List.mem_cons_self)
      · exact (sb b m).elim (fun m => s1.nb b (inF b (List.mem_cons_of_mem _ m))) (o1.nb b)
  have sN := s1.mutate (H' := upd H1 a0 (.lst (us ++ [v]))) (M := [a0]) h1 e3 e4 kU thU (fun b m => by
    have : b = a0 := by simpa using m
    rw [this]; exact m0) oN (fun b hb b' hb' => by
    rcases List.mem_cons.mp hb with m | m
    · rw [m]; exact ap1 a List.mem_cons_self b' hb'
    · rcases sb b m with m | m
      · exact ap1 b (List.mem_cons_of_mem _ m) b' hb'
      · exact ap b m b' (sub1 b' hb'))
  refine ⟨a, vs, a0, us, F1.set i _, e3, ha1, rl.len, hv0, ha0, ru.len, ⟨⟨fun b u hb nb nA => ?_, fun b u hb => ?_, st.zz, st.zn, fun b m => ?_⟩, sN⟩⟩
  · have q1 := st.keep b u hb nb nA
    refine kU b u q1 fun m => ?_
    have : b = a0 := by simpa using m
    subst this
    rcases st.fn b (List.mem_append_right _ (inF b m0)) with z | z
    · exact nA z
    · rw [hb] at z; cases z
  · obtain ⟨u', q1⟩ := st.there b u hb
    exact thU b u' q1
  · refine st.fn b ?_
    rcases flat_set F1 i _ b m with m | m
    · rcases List.mem_cons.mp m with m | m
      · exact List.mem_append_right _ (by rw [m]; exact inF a List.mem_cons_self)
      · rcases sb b m with m | m
        · exact List.mem_append_right _ (inF b (List.mem_cons_of_mem _ m))
        · exact List.mem_append_left _ m
    · exact List.mem_append_right _ m
end
section
variable {X : Cx} {W : WX} {G : Bg} {c : Nat} {e o : Expr} {pos p1 p2 p3 apos cpos : Pos}
def rAppN (i : Nat) (k : Int) (ms : List Bool) (te : RE) : RS := fun P env => ∃ ds q es, env[i]? = some (some (.lst true ds)) ∧ ixN ds.length k = some q ∧ ds[q]? = some (.lst true es) ∧
  te (mask ms env) (fun d => ow d = true ∧ es.length < sizeLine ∧ P.nx (env.set i (some (.lst true (ds.set q (.lst true (es ++ [d]))))))) (fun x => P.ex x (frzS ms env))
theorem js_appN {i : Nat} {k : Int} {te : RE} {ie : Expr} (ms : List Bool) (ho : PE X o (tVar i)) (hi : PE X ie (tC (.int k))) (he : JE X W G c e te) (hs : swapsWith (.Call (.Attribute (.Subscript o ie p1) "append" apos) [e] [] cpos) none pos.line X.env = pure false := by rfl)
    (hbase : attributeBase (.Subscript o ie p1) "append" X.env (eval (.Subscript o ie p1) X.env) = eval (.Subscript o ie p1) X.env := by rfl) (hline : (apos.endLine == cpos.line) = true := by rfl) (hse : starEach [e] X.env = (false, eval e X.env) :: starEach [] X.env := by rfl)
    (hfew : ((backTo cpos (starEach [e] X.env)).all (fun x => !x.1) && (backToKw cpos (keywordEach [] X.env)).all (fun x => x.1.isSome)
      && decide (([e] : List Expr).length + ([] : List Keyword).length + (if ([] : List Keyword).isEmpty then 0 else 1) < 30)) = true := by rfl) (hpl : PlainIx ie := by intro _ _; rfl) :
    JS X W G c (.Expr (.Call (.Attribute (.Subscript o ie p1) "append" apos) [e] [] cpos) pos) (rAppN i k ms te) := by
  refine psImp (ps_expr (pe_bm PySem.F.plainAttrs_list PySem.F.slot_list_append PySem.F.type_list_append mt_append (pe_ix ix_list ho hi hpl) (pa_cons he pa_nil hse) hbase hfew hline hse rfl) hs) fun Dn σ H h => ?_
  obtain ⟨n, Z, env, F, P, l, s, ⟨ds, q, es, h0, hk, hq, t⟩, qn, qb, qc, qr, qx⟩ := h
  obtain ⟨v0, fp0, e1, e2, rp0⟩ := s.at_ i _ h0
  obtain ⟨a, vs, f, ev, ha, rl, ef⟩ := rp0
  subst ev
  obtain ⟨w0, f0, hv0, rw0, _⟩ := rl.get hq
  obtain ⟨a0, us, f00, ew, ha0, ru, _⟩ := rw0
  subst ew
  obtain ⟨g, w⟩ := s.view ms
  refine ⟨.ref a, e1, a, vs, k, .ref a0, rfl, rfl, SqL.of ha, at_atI (by rw [rl.len]; exact hk) hv0, .inl ⟨rfl, _, SqL.of ha0⟩, n, _, mask ms env, _, _, ⟨g, l⟩, w, t, fun d v fp Z1 H1 r1 o1 t1 => ?_, fun y cls da Z1 H1 r1 xr e1 => qx y cls da Z1 _ σ H1 _ (s.fails r1) xr e1⟩
  obtain ⟨how, hlen, t1⟩ := t1
  obtain ⟨Z2, F2, s2, o2, ap, st2⟩ := s.after r1 o1
  have ea : aft ms env d = env := by unfold aft; rw [how]
  rw [ea] at s2
  obtain ⟨a', vs', a0', us', F3, x1, x2, x3, x4, x5, x6, sd⟩ := nest_app s2 st2 h0 hq o2 ap
  rw [e1] at x1
  cases x1
  have nb : ∀ b ∈ F.flatten, ¬ inB G b := s.nb
  have ka : H1 a = some (.lst vs) := r1.st.keep a _ ha (nb a (memF e2 a (by rw [ef]; exact List.mem_cons_self))) (fun m => nomatch m)
  rw [ka] at x2
  cases x2
  rw [hv0] at x4
  cases x4
  refine ⟨a0, us', v, rfl, rfl, x5, by rw [x6]; exact hlen, qn Z2 _ σ _ F3 sd t1⟩
end
end TT

set_option Elab.async false
set_option linter.all false
set_option maxRecDepth 100000
namespace TT
open PySem PySem.Spec PyProof.Rows L2
abbrev riEnu (ta : RA) : RI := fun env Q E => ta env (fun ds => iEnu ds Q) E
end TT

set_option Elab.async false
set_option linter.all false
set_option maxRecDepth 100000
set_option maxHeartbeats 2000000
namespace PySem
namespace OwnK
open PySem.W PySem.Calls PyProof.Rows PySem.HandSPX PySem.Spec
theorem checkArgs_kw {id : String} {sig : Manifest.Signature} {p : List Value} {kw : List (Str × Value)} (h : sig.machinery = .hand ∨ sig.machinery = .any) : Bind.checkArgs id sig ⟨p, kw⟩ = Bind.checkArgs id sig ⟨p, []⟩ := by
  unfold Bind.checkArgs
  rcases h with h | h <;> simp [h, Bind.check]
theorem tc_mach : ((Manifest.signature? "type.__call__").map fun s => decide (s.machinery = .hand ∨ s.machinery = .any)) = some true := by decide +kernel
theorem tc_kw {p : List Value} {kw : List (Str × Value)} : checkBuiltinCall "type.__call__" ⟨p, kw⟩ = checkBuiltinCall "type.__call__" ⟨p, []⟩ := by
  have h := tc_mach
  cases e : Manifest.signature? "type.__call__" with
  | none => rw [e] at h; cases h
  | some sg =>
    rw [e] at h
    have h : sg.machinery = .hand ∨ sg.machinery = .any := by simpa using h
    unfold checkBuiltinCall
    rw [F.bk_type_call, F.sp_type_call]
    simp only [e, checkArgs_kw (kw := kw) h]
section
variable {prog : Program} {w : World} {A : Around} {E : Value → Shared → Prop} {R : Result → Shared → Prop} {h : Heap} {g : Array GenState} {d : Drawn} {t : Nat} {os : OsState} {nm q : Str} {C N : Addr} {bs bm bmB : List Value}
  {hdct : Bool} {sn : List Str} {sub : List Value} {ab : Bool} {col : Option Bool} {dd : Option Addr} {k0 k1 k2 k3 k5 : Option Value} {B newId initId : String}
theorem new_ownK (F : ExcBaseFacts B newId initId bmB) (hT : ∀ X : String, bm.contains (Value.type X) = bmB.contains (Value.type X)) {rest : List Value} {kw : List (Str × Value)}
    (hC : h.get? C = some (excClassObj nm q C N bs bm hdct sn sub ab col dd k0 k1 k2 k3 k5 newId))
    (hR : R (Except.ok (Flow.ret (Value.ref (h.objs.size + 1)))) { heap := (h.push (kdv_tup rest)).push (excO C h.objs.size), gens := g, drawn := d, toks := t, os := os }) (hrest : rest.length ≤ sizeLine) :
    codeAny (model prog w) A (Code.builtin newId { pos := Value.ref C :: rest, kw := kw }) R { heap := h, gens := g, drawn := d, toks := t, os := os } := by
  have hends := F.ends
  have hcB : (Value.ref C :: bm).contains (Value.type B) = true := by rw [List.contains_cons, hT B, F.hasB, Bool.or_true]
  have hcA : (Value.ref C :: bm).contains (Value.type "AttributeError") = false := by rw [List.contains_cons, hT "AttributeError", F.noAttr] <;> rfl
  have hcN : (Value.ref C :: bm).contains (Value.type "NameError") = false := by rw [List.contains_cons, hT "NameError", F.noName] <;> rfl
  refine codeAny_builtinAt F.entry (id (PySem.wpAt_bind (id (PySem.wpAt_bind (PySem.wpAt_stack fun p below => wpAt_of_wpAny (wpAny_ite_true (decide_eq_true hends) (wpAny_pure (wpAt_of_wpAny ?_))))))))
  rw [F.owner]
  refine wpAny_bind (id (wpAny_bind (id (wpAny_loadPart_at hC (wpAny_pure (wpAny_ite_false rfl (wpAny_bind (wpAny_isSubtype_exc hC ?_))))))))
  rw [hcB]
  refine wpAny_ite_false rfl (wpAny_bind (wpAny_madeHere_exc F.canon hC (wpAny_bind (id (wpAny_bind (wpAny_isSubtype_exc hC ?_))))))
  rw [hcA]
  refine wpAny_ite_false rfl (wpAny_bind (wpAny_isSubtype_exc hC ?_))
  rw [hcN]
  refine wpAny_ite_false rfl (wpAny_pure (wpAny_bind (id (id (wpAny_ite_false (by simpa using hrest) (id (id (wpAny_bind (wpAny_alloc' (wpAny_pure (wpAny_bind ?_)))))))))))
  have hC₂ : ((h.push (kdv_tup rest)).push (excO C h.objs.size)).get? C = some (excClassObj nm q C N bs bm hdct sn sub ab col dd k0 k1 k2 k3 k5 newId) := Heap.get?_push_of_some _ (Heap.get?_push_of_some _ hC)
  refine wpAny_bind (wpAny_alloc' (wpAny_bind ?_))
  unfold classHasDel
  refine wpAny_bind (wpAny_loadPart_at hC₂ (wpAny_pure (wpAny_ite_false rfl (wpAny_pure (wpAny_pure ?_)))))
  simpa [Heap.size_push] using hR
theorem type_call_ownK (F : ExcBaseFacts B newId initId bmB) (hT : ∀ X : String, bm.contains (Value.type X) = bmB.contains (Value.type X)) {rest : List Value} {kw : List (Str × Value)} {fI : Addr} {Q : PySem.Fin → Shared → Prop}
    (hC : h.get? C = some (excClassObj nm q C N bs bm hdct sn sub ab col dd k0 k1 k2 k3 k5 newId))
    (hi : Looks (model prog w) h (typeLookup (Value.ref C) (Str.ofString "__init__")) (some (Value.ref fI)))
    (hb : ∀ self : Value, Looks (model prog w) h (bindSpecial (Value.ref fI) self) (Value.ref fI, [self])) (hrest : rest.length ≤ sizeLine)
    (hq : codeAny (model prog w) A (Code.call (Value.ref fI) { pos := Value.ref (h.objs.size + 1) :: rest, kw := kw })
      (fun r s' => match r with
        | Except.ok (Flow.ret v) => v = Value.none ∧ Q (Fin.done (Flow.ret (Value.ref (h.objs.size + 1)))) s'
        | Except.ok a => False
        | Except.error e => E e s') { heap := (h.push (kdv_tup rest)).push (excO C h.objs.size), gens := g, drawn := d, toks := t, os := os }) :
    wpAny (model prog w) A (Builtin.«type.__call__» { pos := Value.ref C :: rest, kw := kw }) Q E { heap := h, gens := g, drawn := d, toks := t, os := os } := by
  have hce : checkBuiltinCall newId { pos := Value.ref C :: rest, kw := kw } = checkBuiltinCall newId { pos := Value.ref C :: rest } := by
    unfold checkBuiltinCall
    rw [F.newSplit, F.newKind, F.newRow]
    rfl
  unfold Builtin.«type.__call__»
  refine wpAny_ite_false (by rfl) ?_
  refine wpAny_bind <| id <| wpAny_bind <| id <| wpAny_bind <| wpAny_load' hC <| wpAny_pure <| wpAny_pure <| wpAny_ite_false rfl <| wpAny_bind <| wpAny_madeBy_exc hC <| wpAny_bind <| wpAny_pure <| wpAny_bind <| wpAny_holding <| wpAny_call <| codeAny_call_builtin_code (Code.quiet_builtin _ F.quiet) ?_
  rw [hce]
  refine check_new_own F hT hC (new_ownK F hT hC ?_ hrest)
  have k : ∀ b o, h.get? b = some o → ((h.push (kdv_tup rest)).push (excO C h.objs.size)).get? b = some o := fun b o e => Heap.get?_push_of_some _ (Heap.get?_push_of_some _ e)
  have hC₁ := k C _ hC
  have hget : ((h.push (kdv_tup rest)).push (excO C h.objs.size)).get? (h.objs.size + 1) = some (excO C h.objs.size) := by heap_get
  have hcC : (Value.ref C :: bm).contains (Value.ref C) = true := by simp
  have i1 := hi.keeps k
  have b1 := (hb (.ref (h.objs.size + 1))).keeps k
  refine id <| wpAny_bind <| wpAny_bind <| id <| wpAny_bind <| wpAny_loadPart_at hget <| wpAny_pure <| wpAny_isSubtype_exc hC₁ ?_
  rw [hcC]
  refine wpAny_ite_false rfl <| wpAny_bind <| wpAny_holding <| id <| wpAny_bind <| id <| wpAny_bind <| id <| wpAny_bind <| wpAny_loadPart_at hget <| wpAny_pure <| id <| Looks.at i1 ?_
  refine wpAny_holding (wpAny_bind (Looks.at b1 (wpAny_bind (wpAny_call (codeAny_mono hq fun r s' z => ?_)))))
  match r, z with
  | .ok (.ret v), z =>
    obtain ⟨e, z⟩ := z
    subst e
    exact wpAny_pure (wpAny_ite_false rfl (wpAny_pure z))
  | .error e, z => exact z
theorem call_ownK (F : ExcBaseFacts B newId initId bmB) (hT : ∀ X : String, bm.contains (Value.type X) = bmB.contains (Value.type X)) {rest : List Value} {kw : List (Str × Value)} {fI : Addr}
    (hC : h.get? C = some (excClassObj nm q C N bs bm hdct sn sub ab col dd k0 k1 k2 k3 k5 newId))
    (hi : Looks (model prog w) h (typeLookup (Value.ref C) (Str.ofString "__init__")) (some (Value.ref fI)))
    (hb : ∀ self : Value, Looks (model prog w) h (bindSpecial (Value.ref fI) self) (Value.ref fI, [self])) (hrest : rest.length ≤ sizeLine)
    (hq : codeAny (model prog w) (A.under (Code.builtin "type.__call__" { pos := Value.ref C :: rest, kw := kw })) (Code.call (Value.ref fI) { pos := Value.ref (h.objs.size + 1) :: rest, kw := kw }) (InitBack (h.objs.size + 1) R)
      { heap := (h.push (kdv_tup rest)).push (excO C h.objs.size), gens := g, drawn := d, toks := t, os := os }) :
    codeAny (model prog w) A (Code.call (Value.ref C) { pos := rest, kw := kw }) R { heap := h, gens := g, drawn := d, toks := t, os := os } := by
  have f1 := tc_lookup
  have f2 := tc_bind (Value.ref C)
  refine codeAny_of_tree <| id <| id <| wpAny_bind <| wpAny_load' hC <| id <| id <| wpAny_bind <| wpAny_specialOf ⟨_, hC, rfl⟩ f1 <| wpAny_bind <| wpAny_of_eq f2 <| wpAny_bind <| id <| wpAny_pure <| wpAny_ite_true (by rfl) <| id <| wpAny_pure ⟨rfl, ?_⟩
  refine codeAny_call_builtin_at (Code.quiet_builtin _ (by decide +kernel)) entry_typeCall ?_
  show wpAny _ _ (checkBuiltinCall "type.__call__" ⟨Value.ref C :: rest, kw⟩) _ _ _
  rw [tc_kw]
  refine wpAny_check_type_call_sub hC (type_call_ownK F hT hC hi hb hrest (codeAny_mono hq fun r s' z => ?_))
  match r, z with
  | .error e, z => exact z
  | .ok (.ret v), z => exact z
  | .ok .next, z => exact z
  | .ok .brk, z => exact z
  | .ok .cont, z => exact z
end
end OwnK
end PySem

set_option Elab.async false
set_option linter.all false
set_option maxRecDepth 100000
set_option maxHeartbeats 2000000
namespace PySem
namespace OwnX
open PySem.W PySem.Calls PyProof.Rows PySem.HandSPX
section
variable {prog : Program} {w : World} {A : Around} {E : Value → Shared → Prop} {R : Result → Shared → Prop} {s : Shared} {K : Frag} {mg : Str → Option Value} {C fI : Addr} {cx qn : Str}
theorem own_initK (T : OwnTxt cx qn K mg C fI) {x t0 : Addr} {v : Value} (X : K.In s.heap) (hlim : s.heap.NoLimit) (hx : s.heap.get? x = some (excO C t0)) (hnx : K.lookup x = none) (hroom : A.depth < recursionLimit)
    (hq : ∀ h' tk dx, InitEnd s.heap h' x C dx t0 v → R (.ok (.ret .none)) { s with heap := h', toks := tk }) :
    codeAny (model prog w) A (.call (.ref fI) ⟨[.ref x], [("value", v)]⟩) R s := by
  obtain ⟨oc, od, doc, pm, an, cdv, ct, osl, p1, p2, q1, q2, q3, q4, ho, hcd⟩ := T.fn
  obtain ⟨nm, q, N, bs, bm, sn, sub, ab, col, dd, k0, k1, k2, k3, k5, hC, hbm⟩ := T.cls
  have hcl : clsIn K C = some { name := nm, bases := bs, mro := .ref C :: bm, ns := N, qualname := q, hasDict := true, slotNames := sn, subclasses := sub, abstract := ab, collection := col, hasDel := false } := by unfold clsIn; rw [hC] <;> rfl
  refine Att.call_fn (binds := [("self", .ref x), ("value", v)]) X hlim ho hcd hroom (BindsTo.of_eq (by first | rfl | with_unfolding_all rfl)) (by first | rfl | decide | with_unfolding_all rfl) (fun s₁ IC => ?_) rfl rfl rfl
  obtain ⟨h₁, tk₁, rfl⟩ := IC.toInCall.same
  have k : ∀ b o, s.heap.get? b = some o → h₁.get? b = some o := IC.toInCall.keep
  have hn := IC.toInCall.ns
  have hxL : s.heap.objs.size ≠ x := Nat.ne_of_gt (Heap.lt_size hx)
  have X₁ : K.In h₁ := X.keeps k
  have hx₁ := k _ _ hx
  -- self.by = by
  show wpAny _ _ (execs _ _) _ _ _
  refine wpAny_execs_cons (plainObj_wpAny_Assign_Attribute ?_)
  refine ldC (v := v) hn (by first | rfl | with_unfolding_all rfl | kernel_rfl) (ldC (v := .ref x) hn (by first | rfl | with_unfolding_all rfl | kernel_rfl) ?_)
  refine set_plain X₁ (ox := excO C t0) (od := none) ⟨hx₁, rfl, rfl, trivial⟩ T.sa ?_
  refine exc_osa X₁ hx₁ hcl (show refsVE (.ref C :: bm) = true from hbm) rfl T.noN (fun h₃ tk₃ dx k₃ dn dne hx₃ hn₃ => ?_)
  show wpAny _ _ (execs _ _) _ _ _
  have z : s.heap.objs.size < h₁.objs.size := hn.lt
  exact wpAny_execs_nil (hq h₃ tk₃ dx ⟨fun b o hb e => k₃ b o hb (k b o e), hx₃, Nat.le_of_lt (Nat.lt_of_lt_of_le z dn), dne, hn₃⟩)
theorem own_madeK (T : OwnTxt cx qn K mg C fI) {v : Value} (X : K.In s.heap) (hlim : s.heap.NoLimit) (hroom : A.depth + 1 < recursionLimit)
    (hq : ∀ h' tk e d, OwnMade s.heap h' e C d v → R (.ok (.ret (.ref e))) { s with heap := h', toks := tk }) :
    codeAny (model prog w) A (.call (.ref C) ⟨[], [("value", v)]⟩) R s := by
  obtain ⟨nm, q, N, bs, bm, sn, sub, ab, col, dd, k0, k1, k2, k3, k5, hC, hbm⟩ := T.cls
  obtain ⟨hp, g, dr, tk, os⟩ := s
  have k : ∀ b o, hp.get? b = some o → ((hp.push (kdv_tup [])).push (excO C hp.objs.size)).get? b = some o := fun b o e => Heap.get?_push_of_some _ (Heap.get?_push_of_some _ e)
  have hget : ((hp.push (kdv_tup [])).push (excO C hp.objs.size)).get? (hp.objs.size + 1) = some (excO C hp.objs.size) := by heap_get
  have hnx : K.lookup (hp.objs.size + 1) = none := by
    cases e : K.lookup (hp.objs.size + 1) with
    | none => rfl
    | some o =>
      have z : hp.get? (hp.objs.size + 1) = some o := X _ _ e
      exact absurd (Nat.lt_of_succ_lt (Heap.lt_size z)) (Nat.lt_irrefl _)
  refine OwnK.call_ownK F.excBase_ValueError (fun X => refsVE_contains X bm hbm) (X _ _ hC) (looks_findIn X T.iC) (fun self => bind_fn X self T.tC) (Nat.zero_le _) ?_
  refine own_initK (s := ⟨(hp.push (kdv_tup [])).push (excO C hp.objs.size), g, dr, tk, os⟩) T (X.keeps k) (hlim.keeps k) hget hnx ?_ fun h' tk' dx ⟨k', hx, dn, dne, hns⟩ => ?_
  · show A.depth + 1 < recursionLimit
    exact hroom
  · have old : ∀ b o, hp.get? b = some o → h'.get? b = some o := fun b o e => k' b o (Nat.ne_of_lt (Nat.lt_succ_of_lt (Heap.lt_size e))) (k b o e)
    have z : hp.objs.size + 1 + 1 ≤ dx := by
      first
        | (simpa only [Heap.size_push] using dn)
        | exact dn
        | (have q := dn; rw [Heap.size_push, Heap.size_push] at q; exact q)
    exact ⟨rfl, hq h' tk' (hp.objs.size + 1) dx ⟨old, Nat.le_succ _, ⟨_, _, hx, rfl, rfl, rfl, rfl⟩, Nat.le_trans (Nat.le_trans (Nat.le_succ _) (Nat.le_succ _)) z, z, dne, hns⟩⟩
end
end OwnX
end PySem
namespace L2
open PySem PySem.Spec PyProof.Rows TT
theorem trunc (h : Heap) (n : Nat) : ∃ G : Heap, G.objs.size ≤ n ∧ ∀ b, b < n → G.get? b = h.get? b :=
  ⟨{ h with objs := h.objs.extract 0 n }, by simp; omega, fun b hb => by
    unfold Heap.get?
    have : (h.objs.extract 0 n)[b]? = h.objs[b]? := by
      rw [Array.getElem?_extract]
      by_cases q : b < h.objs.size
      · rw [if_pos (by omega)]; simp
      · rw [if_neg (by omega)]; exact (Array.getElem?_eq_none (by omega)).symm
    simp only [this]⟩
section
variable {X : Cx} {C fI : Addr} {cx qn : Str}
/-- what is left of Own(v) -/
theorem own_left {pins : List (Addr × Obj)} {σ : L2.St} {H1 : Hp} {s1 : Shared} {v : V} {v' : Value} {h' : Heap} {tk' : Nat} {e d : Addr} {Q : VK} (I1 : Inv X pins σ H1 s1) (rv : L2.RelV v v') (M : PySem.OwnX.OwnMade s1.heap h' e C d v')
    (q : ∀ e d, H1 e = none → H1 d = none → e ≠ d → Q (.ref e) (upd (upd H1 e (ErO C e d)) d (.xd [(("value" : Str), v)]))) :
    EP X pins σ Q (.ref e) { s1 with heap := h', toks := tk' } := by
  obtain ⟨oe, fv, hoe, hc, hd, hdat, h1⟩ := M.obj
  obtain ⟨G1, z1, z2⟩ := trunc h' d
  have old : ∀ b o, s1.heap.get? b = some o → G1.get? b = some o := fun b o g => (z2 b (Nat.lt_of_lt_of_le (Heap.lt_size g) M.dbig)).trans (M.keep b o g)
  have ge : G1.get? e = some oe := (z2 e M.elt).trans hoe
  have ob1 : ObjOk X.prog X.w (upd H1 e (ErO C e d)) G1 e (ErO C e d) := ⟨⟨oe, fv, ge, hc, hd, hdat⟩, ⟨oe, ge⟩, fun a b ⟨oe, vs, g, r⟩ k => ⟨oe, vs, k _ g, r⟩⟩
  have J1 : Inv X pins σ (upd H1 e (ErO C e d)) ⟨G1, s1.gens, s1.drawn, tk', s1.os⟩ := I1.laid (t' := tk') old M.new ob1
  have g2 : ∀ b o, G1.get? b = some o → h'.get? b = some o := fun b o g => (z2 b (Nat.lt_of_lt_of_le (Heap.lt_size g) z1)).symm.trans g
  have ob2 : ObjOk X.prog X.w (upd (upd H1 e (ErO C e d)) d (.xd [(("value" : Str), v)])) h' d (.xd [(("value" : Str), v)]) :=
    ⟨_, M.ns, fun f => relO_low rv f⟩
  have J2 : Inv X pins σ (upd (upd H1 e (ErO C e d)) d (.xd [(("value" : Str), v)])) ⟨h', s1.gens, s1.drawn, tk', s1.os⟩ := J1.laid (t' := tk') g2 z1 ob2
  exact ⟨.ref e, _, J2, rfl, q e d (I1.hok.fresh M.new) (I1.hok.fresh M.dbig) (Ne.symm M.dne)⟩
def tErr (C : Addr) (ta : TA) : TE := fun σ H Q => ta σ H fun vs H1 => ∃ v, vs = [v] ∧ ∀ e d, H1 e = none → H1 d = none → e ≠ d → Q (.ref e) (upd (upd H1 e (ErO C e d)) d (.xd [(("value" : Str), v)]))
theorem pe_own1 {a : Expr} {ta : TA} {p pos : Pos} {k : Nat} (T : PySem.OwnX.OwnTxt cx qn X.K X.mg C fI) (hr : Room k X.A) (ha : PA X [a] ta) (hg : Gl X cx) (hdb : (cx == ("__debug__" : Str)) = false := by decide)
    (he : starEach (a :: []) X.env = (false, eval a X.env) :: starEach [] X.env := by rfl) (hpl : (backTo pos (starEach [] X.env)).any (·.1) = false := by rfl) :
    PE X (.Call (.Name cx p) [a] [] pos) (tErr C ta) := by
  refine ⟨fun pins s σ H Q I h => ?_⟩
  refine wpAny_Call_Name_kw (ld_glob I hg T.gC ?_ (hd := hdb))
  refine PySem.W.callWith_K (h₀ := X.base) I.ok.mod.kin T.kC (thn (ha.run pos pins s σ H _ I h) fun us s1 hh => ?_) he hpl
  obtain ⟨vs, H1, I1, r1, v, ev, q1⟩ := hh
  subst ev
  refine ⟨I1.kIn, ?_⟩
  cases r1 with
  | cons rv rn =>
    cases rn
    have hlim := I1.nolimit
    exact wpAny_call (PySem.OwnX.own_made T I1.kIn hlim (by have := hr.dp; omega) fun h' tk' e d M => own_left I1 rv M q1)
theorem pe_ownK {ta : TA} {p pos : Pos} {k : Nat} {kws : List Keyword} (T : PySem.OwnX.OwnTxt cx qn X.K X.mg C fI) (hr : Room k X.A) (ha : PK X kws ta) (hg : Gl X cx) (hk1 : ((backToKw pos (keywordEach kws X.env)).all fun x => x.fst.isSome) = true := by rfl) (hk2 : List.filterMap (fun x => x.fst) (backToKw pos (keywordEach kws X.env)) = [("value" : Str)] := by rfl) (hdb : (cx == ("__debug__" : Str)) = false := by decide)
    (hpl : (((backTo pos (starEach [] X.env)).any fun x => x.fst) || (backToKw pos (keywordEach kws X.env)).any fun x => x.fst.isNone) = false := by rfl) :
    PE X (.Call (.Name cx p) [] kws pos) (tErr C ta) := by
  refine ⟨fun pins s σ H Q I h => ?_⟩
  refine wpAny_Call_Name_kw (ld_glob I hg T.gC ?_ (hd := hdb))
  refine PySem.W.callWith_KW0 (h₀ := X.base) I.ok.mod.kin T.kC hk1 (thn (ha.run pos pins s σ H _ I h) fun us s1 hh => ?_) hpl
  obtain ⟨vs, H1, I1, r1, v, ev, q1⟩ := hh
  subst ev
  refine ⟨I1.kIn, ?_⟩
  cases r1 with
  | cons rv rn =>
    cases rn
    rw [hk2]
    have hlim := I1.nolimit
    exact wpAny_call (PySem.OwnX.own_madeK T I1.kIn hlim (by have := hr.dp; omega) fun h' tk' e d M => own_left I1 rv M q1)
/-- what isinstance and a read ask of an error's class -/
structure ErrK (K : PySem.W.Frag) (C : Addr) : Prop where
  ga : PySem.W.findIn K (.ref C) "__getattribute__" = some (some (.builtin "BaseException.__getattribute__"))
  gg : PySem.W.findIn K (.ref C) "__getattr__" = some none
  noN : PySem.W.findIn K (.ref C) "value" = some none
  exC : PySem.W.subIn K (.ref C) (.type "BaseException") = some true
  hdC : PySem.W.hasDictIn K C = true
  cC : (PySem.W.clsIn K C).isSome = true
  cl : PySem.W.findIn K (.ref C) "__class__" = some (some (.builtin "object.__class__"))
  mo : PySem.W.mroIn K C (.type "object") = some true
  sp : PySem.W.specialIn K (.builtin "object.__class__") "__get__" = some (some (.builtin "getset_descriptor.__get__"))
  tk : PySem.W.takesIn K (.builtin "object.__class__") = some true
theorem err_at {pins : List (Addr × Obj)} {σ : L2.St} {H : Hp} {s : Shared} {a dd : Addr} {fs : List (Str × V)} (I : Inv X pins σ H s) (e : H a = some (ErO C a dd)) (ed : H dd = some (.xd fs)) :
    ∃ oe od mA, PySem.W.InstAt s.heap a oe C (some od) ∧ oe.dict = some dd ∧ s.heap.Ns1 dd mA ∧ (∀ f, RelO (List.lookup f fs) (mA f)) ∧ s.heap.get? dd = some od := by
  have h1 : ObjOk X.prog X.w H s.heap a (ErO C a dd) := I.hok a _ e
  obtain ⟨⟨oe, vs, g, hc, hd, hf⟩, _⟩ := h1
  have hx : ObjOk X.prog X.w H s.heap dd (.xd fs) := I.hok dd _ ed
  obtain ⟨mA, hns, hr⟩ := hx
  obtain ⟨od, ho, hl⟩ := lookIn_ns hns
  exact ⟨oe, od, mA, ⟨g, hc, by unfold PySem.W.notCls; rw [hf] <;> rfl, by rw [hd]; exact ho⟩, hd, hns, hr, ho⟩
def rIsErr (K : PySem.W.Frag) : List V → Hp → VK → Prop := fun xs H Q => ∃ a C dd c cv fs b, xs = [.ref a, c] ∧ ClsV c cv ∧ ErrK K C ∧ H a = some (ErO C a dd) ∧ H dd = some (.xd fs) ∧ PySem.W.kitOne K (.ref C) cv = some b ∧ Q (.bl b) H
theorem call_isErr : CallR X (.builtin "isinstance") (rIsErr X.K) := by
  intro pins s σ H xs us Q I r h
  obtain ⟨a, C, dd, c, cv, fs, b, e, hcv, hE, ea, ed, hk, q⟩ := h
  subst e
  obtain ⟨oe, od, mA, J, -, -, -, -⟩ := err_at I ea ed
  match us, r with
  | [u1, u2], .cons r1 (.cons r2 .nil) =>
    obtain rfl : u1 = Value.ref a := r1
    obtain rfl : u2 = cv := by cases hcv <;> exact r2
    exact PySem.W.kia_one (PySem.W.kitx_exc hE.cC hE.ga hE.gg hE.exC hE.cl hE.sp hE.tk hE.mo) I.kIn J hk (by intro z; cases z) fun tk => ⟨.bl b, H, I.tok _, rfl, q⟩
def tErrV (K : PySem.W.Frag) (te : TE) : TE := fun σ H Q => te σ H fun x H1 => ∃ a C dd v, x = .ref a ∧ ErrK K C ∧ H1 a = some (ErO C a dd) ∧ H1 dd = some (.xd [(("value" : Str), v)]) ∧ Q v H1
theorem pe_errV {e : Expr} {te : TE} {pos : Pos} (he : PE X e te) (hb : attributeBase e "value" X.env (eval e X.env) = eval e X.env := by rfl) :
    PE X (.Attribute e "value" pos) (tErrV X.K te) := by
  refine ⟨fun pins s σ H Q I h => ?_⟩
  refine attr_of hb (thn (he.run pins s σ H _ I h) fun u s1 hh => ?_)
  obtain ⟨x, H1, I1, rx, a, C, dd, v, ex, hE, ea, ed, q⟩ := hh
  subst ex
  obtain rfl : u = Value.ref a := rx
  obtain ⟨oe, od, mA, J, hd, hns, hr, ho⟩ := err_at I1 ea ed
  obtain ⟨od', ho', hl⟩ := lookIn_ns hns
  have eo : od' = od := by rw [ho] at ho'; cases ho'; rfl
  subst eo
  have l : List.lookup ("value" : Str) [(("value" : Str), v)] = some v := by simp [List.lookup]
  obtain ⟨u, hu, ru⟩ := RelO.some_of (v := v) (o := mA "value") (by rw [← l]; exact hr "value")
  exact HandSPX.exc_get I1.kIn J hE.ga hE.gg hE.exC (PySem.W.findObj_own hE.hdC hE.noN rfl (by rw [hl, hu])) (handed_of ru) ⟨v, H1, I1.tok _, ru, q⟩
end
end L2

set_option Elab.async false
set_option linter.all false
set_option maxRecDepth 100000
set_option maxHeartbeats 2000000
namespace TT
open PySem PySem.Spec PyProof.Rows L2
/-! ### errors of the program's own as values -/
def rErr (cx : Str) (t : RA) : RE := fun env Q E => t env (fun ds => match ds with
  | [d] => Q (.err cx (frz d))
  | _ => False) E
section
variable {X : Cx} {W : WX} {G : Bg} {c c1 c2 : Nat} {C fI : Addr} {cx qn : Str}
theorem li_err {ta : TA} {t : RA} (N : cnm X.K C = some cx) (σ : L2.St) (H : Hp) (Q : VK) (h : liE X W G c (rErr cx t) σ H Q) : tErr C (liA X W G c t) σ H Q := by
  obtain ⟨n, Z, env, Q', E', p, w, t, q, x⟩ := h
  refine ⟨n, Z, env, _, E', p, w, t, fun ds vs fp Z1 H1 r1 o1 t1 => ?_, x⟩
  match ds, o1, t1 with
  | [d], o1, t1 =>
    obtain ⟨v, ev, o2⟩ := obL1 o1
    refine ⟨v, ev, fun e dd he hd ne => ?_⟩
    obtain ⟨g2, rp, s2⟩ := o2.share r1.gd
    have kU : ∀ b u, H1 b = some u → (upd (upd H1 e (ErO C e dd)) dd (.xd [(("value" : Str), v)])) b = some u := fun b u hb => by
      rw [upd_ne (ne_of_none hb hd), upd_ne (ne_of_none hb he)]; exact hb
    have ue : (upd (upd H1 e (ErO C e dd)) dd (.xd [(("value" : Str), v)])) e = some (ErO C e dd) := by
      rw [upd_ne ne, upd_same]
    have s3 : Stp G [] (fun a => Z1 a ∨ a ∈ fp) H1 [] (fun a => (Z1 a ∨ a ∈ fp) ∨ a = e) (upd (upd H1 e (ErO C e dd)) dd (.xd [(("value" : Str), v)])) [] :=
      ⟨fun a u h _ _ => kU a u h, fun a u h => ⟨u, kU a u h⟩, fun _ z => .inl z, fun a z => z.elim .inl fun z => .inr (.inr (by rw [z]; exact he)), fun _ m => nomatch m⟩
    have nbe : ¬ inB G e := fun i => by
      obtain ⟨o, h⟩ := g2.bag.tracked i
      rw [he] at h; cases h
    have g3 : Gd G _ (fun a => (Z1 a ∨ a ∈ fp) ∨ a = e) (upd (upd H1 e (ErO C e dd)) dd (.xd [(("value" : Str), v)])) :=
      ⟨g2.bag.keep fun a i => by
        obtain ⟨o, h⟩ := g2.bag.tracked i
        rw [kU a o h, h], fun a z => z.elim (g2.nz a) fun z => by rw [z]; exact nbe, fun a z => z.elim (fun z => let ⟨u, h⟩ := g2.tr a z; ⟨u, kU a u h⟩) fun z => ⟨ErO C e dd, by rw [z]; exact ue⟩⟩
    refine q (.err cx (frz d)) (.ref e) [] _ _ ((r1.op s2 g2).op s3 g3) (Ob.flat ⟨e, C, dd, v, rfl, N, ue, .inr rfl, upd_same, Rp.keep (fun _ z => .inl z) _ _ _ (fun a o h _ => kU a o h) rp, rfl⟩) t1
  | [], _, t1 => exact t1.elim
  | _ :: _ :: _, _, t1 => exact t1.elim
theorem je_err {a : Expr} {t : RA} {p pos : Pos} {k : Nat} (T : PySem.OwnX.OwnTxt cx qn X.K X.mg C fI) (N : cnm X.K C = some cx) (hr : Room k X.A) (ha : JA X W G c [a] t) (hg : Gl X cx) (hdb : (cx == ("__debug__" : Str)) = false := by decide)
    (he : starEach (a :: []) X.env = (false, eval a X.env) :: starEach [] X.env := by rfl) (hpl : (backTo pos (starEach [] X.env)).any (·.1) = false := by rfl) :
    JE X W G c (.Call (.Name cx p) [a] [] pos) (rErr cx t) := peImp (pe_own1 T hr ha hg hdb he hpl) (li_err (ta := fun _ _ _ => True) N)
theorem je_errK {t : RA} {p pos : Pos} {k : Nat} {kws : List Keyword} (T : PySem.OwnX.OwnTxt cx qn X.K X.mg C fI) (N : cnm X.K C = some cx) (hr : Room k X.A) (ha : JK X W G c kws t) (hg : Gl X cx) (hk1 : ((backToKw pos (keywordEach kws X.env)).all fun x => x.fst.isSome) = true := by rfl) (hk2 : List.filterMap (fun x => x.fst) (backToKw pos (keywordEach kws X.env)) = [("value" : Str)] := by rfl) (hdb : (cx == ("__debug__" : Str)) = false := by decide)
    (hpl : (((backTo pos (starEach [] X.env)).any fun x => x.fst) || (backToKw pos (keywordEach kws X.env)).any fun x => x.fst.isNone) = false := by rfl) :
    JE X W G c (.Call (.Name cx p) [] kws pos) (rErr cx t) := peImp (pe_ownK T hr ha hg hk1 hk2 hdb hpl) (li_err (ta := fun _ _ _ => True) N)
/-- which classes are of the class that cv is -/
structure IsTab (K : PySem.W.Frag) (cv : Value) (l : List (Str × Bool)) : Prop where
  of : ∀ cx b C, List.lookup cx l = some b → cnm K C = some cx → ErrK K C ∧ PySem.W.kitOne K (.ref C) cv = some b
def gIsErr (l : List (Str × Bool)) (x : D) (Q : D → Prop) : Prop := match x with
  | .err cx _ => match List.lookup cx l with
    | some b => Q (.bl b)
    | none => False
  | _ => False
def rIsErrE (l : List (Str × Bool)) (te : RE) : RE := fun env Q E => te env (fun x => gIsErr l x Q) E
theorem je_isErr {y : Str} {p p2 pos : Pos} {e : Expr} {te : RE} {cl : V} {cv : Value} {l : List (Str × Bool)} (hg : Gl X "isinstance") (hm : X.mg "isinstance" = none) (hb : bootBuiltins "isinstance" = some (.builtin "isinstance")) (he : JE X W G c e te) (hcl : PE X (.Name y p2) (tC cl)) (hcv : ClsV cl cv) (ht : IsTab X.K cv l)
    (hs : starEach [e, .Name y p2] X.env = (false, eval e X.env) :: starEach [.Name y p2] X.env := by rfl) (hs2 : starEach [.Name y p2] X.env = (false, eval (.Name y p2) X.env) :: starEach [] X.env := by rfl) (hpl : (backTo pos (starEach [.Name y p2] X.env)).any (·.1) = false := by rfl) :
    JE X W G c (.Call (.Name "isinstance" p) [e, .Name y p2] [] pos) (rIsErrE l te) := by
  refine peImp (pe_callB call_isErr hg hm hb (pa_cons he (pa_cons hcl pa_nil hs2) hs) (by decide) (by decide) hs hpl) fun σ H Q h => ?_
  obtain ⟨n, Z, env, Q', E', p, w, t, q, x⟩ := h
  refine ⟨n, Z, env, _, E', p, w, t, fun d v fp Z1 H1 r1 o1 t1 => ?_, x⟩
  unfold gIsErr at t1
  split at t1
  · rename_i cx' d'
    split at t1
    · rename_i b hl
      obtain ⟨a, C', dd, u, ev, hn, ha, hz, hd, rp, ef⟩ := o1.rp
      subst ev ef
      obtain ⟨hE, hk⟩ := ht.of _ _ _ hl hn
      exact ⟨a, C', dd, cl, cv, _, b, rfl, hcv, hE, ha, hd, hk, q (.bl b) (.bl b) [] Z1 H1 r1 (Ob.flat ⟨rfl, rfl⟩) t1⟩
    · exact t1.elim
  · exact t1.elim
/-- the classes whose value is read -/
def ErrKs (K : PySem.W.Frag) (l : List Str) : Prop := ∀ cx C, cx ∈ l → cnm K C = some cx → ErrK K C
def gErrV (l : List Str) (x : D) (Q : D → Prop) : Prop := match x with
  | .err cx d => cx ∈ l ∧ Q d
  | _ => False
def rErrVE (l : List Str) (te : RE) : RE := fun env Q E => te env (fun x => gErrV l x Q) E
theorem je_errV {e : Expr} {te : RE} {pos : Pos} {l : List Str} (hK : ErrKs X.K l) (he : JE X W G c e te) (hb : attributeBase e "value" X.env (eval e X.env) = eval e X.env := by rfl) :
    JE X W G c (.Attribute e "value" pos) (rErrVE l te) := peImp (pe_errV he hb) fun σ H Q h => by
  obtain ⟨n, Z, env, Q', E', p, w, t, q, x⟩ := h
  refine ⟨n, Z, env, _, E', p, w, t, fun d v fp Z1 H1 r1 o1 t1 => ?_, x⟩
  unfold gErrV at t1
  split at t1
  · rename_i cx' d'
    obtain ⟨a, C', dd, u, ev, hn, ha, hz, hd, rp, ef⟩ := o1.rp
    subst ev ef
    exact ⟨a, C', dd, u, rfl, hK _ _ t1.1 hn, ha, hd, q d' u [] Z1 H1 r1 (Ob.flat rp) t1.2⟩
  · exact t1.elim
/-- a new error of a class without an own __init__, asked at once -/
theorem pe_exc0 {bmB : List Value} {B newId initId : String} {x : Str} {p pos : Pos} (F : ExcBaseFacts B newId initId bmB) (q : PySem.W.excIn X.K C bmB newId = true) (gC : X.mg x = some (.ref C)) (kC : PySem.W.keepIn X.K (.ref C) = true) (hg : Gl X x) (hd : (x == ("__debug__" : Str)) = false := by decide) :
    PE X (.Call (.Name x p) [] [] pos) (fun σ H Q => ∀ a : Addr, H a = none → Q (.ref a) (upd H a (ExO (.ref C) a))) := by
  refine ⟨fun pins s σ H Q I h => ?_⟩
  refine wpAny_Call_Name_kw (ld_glob I hg gC ?_ (hd := hd))
  refine PySem.W.callWith_K0 I.kIn kC ?_
  obtain ⟨hp, g, dr, tk, os⟩ := s
  obtain ⟨bm, N, nm, qn, bs, hdct, sn, sub, ab, col, dd, k0, k1, k2, k3, k5, mN, hC, hN, hi, tl⟩ := exc_obj I.kIn q
  refine wpAny_call_exc_subT F tl hC hN hi (fun h' e M => ?_) (Nat.zero_le _)
  obtain ⟨t, m1, m2, m3⟩ := M.there
  have ob : ObjOk X.prog X.w (upd H e (ExO (.ref C) e)) h' e (ExO (.ref C) e) :=
    ⟨⟨_, _, m1, ⟨rfl, rfl⟩, rfl, rfl, rfl, by simp⟩, ⟨_, m1⟩, fun a b ⟨oe, vs, g, r⟩ k => ⟨oe, vs, k _ g, r⟩⟩
  exact ⟨.ref e, _, I.laidN (t' := tk) M.keeps M.new (I.hok.gone M.new) ob, rfl, h e (I.hok.gone M.new)⟩
def rIsE0 (K : PySem.W.Frag) : List V → Hp → VK → Prop := fun xs H Q => ∃ a C tp cs us b, xs = [.ref a, .ref tp] ∧ ErrK K C ∧ H a = some (ExO (.ref C) a) ∧ H tp = some (.tup cs) ∧ (∀ its, Vals cs its → its = us) ∧ PySem.W.kitAny K (.ref C) us = some b ∧ Q (.bl b) H
theorem call_isE0 : CallR X (.builtin "isinstance") (rIsE0 X.K) := by
  intro pins s σ H xs us Q I r h
  obtain ⟨a, C, tp, cs, ws, b, e, hE, ea, et, hp, hk, q⟩ := h
  subst e
  have h1 : ObjOk X.prog X.w H s.heap a (ExO (.ref C) a) := I.hok a _ ea
  obtain ⟨⟨oe, vs, g, hz, hf, _⟩, _⟩ := h1
  have J : PySem.W.InstAt s.heap a oe C none := ⟨g, hz.1, by unfold PySem.W.notCls; rw [hf] <;> rfl, by rw [hz.2]; trivial⟩
  have h2 : ObjOk X.prog X.w H s.heap tp (.tup cs) := I.hok tp _ et
  match us, r with
  | [u1, u2], .cons r1 (.cons r2 .nil) =>
    obtain rfl : u1 = Value.ref a := r1
    obtain rfl : u2 = Value.ref tp := r2
    unfold ObjOk at h2
    obtain ⟨_, its, hv, ht⟩ := h2
    obtain rfl := hp its hv
    obtain ⟨⟨c1, d1, da1, sl1⟩, ht, hc, nn, hd⟩ := ht
    cases hc
    cases hd
    exact PySem.W.kia_tup (PySem.W.kitx_exc hE.cC hE.ga hE.gg hE.exC hE.cl hE.sp hE.tk hE.mo) I.kIn J ht hk (by intro z; cases z) fun tk => ⟨.bl b, H, I.tok _, rfl, q⟩
theorem vals3 {A B C : Addr} (its : List Value) (h : Vals [.ref A, .ref B, .ref C] its) : its = [.ref A, .ref B, .ref C] := by
  match its, h with
  | [u1, u2, u3], .cons r1 (.cons r2 (.cons r3 .nil)) =>
    obtain rfl : u1 = Value.ref A := r1
    obtain rfl : u2 = Value.ref B := r2
    obtain rfl : u3 = Value.ref C := r3
    rfl
/-- isinstance(E(), (A1, A2, A3)) -/
theorem je_isNew3 {bmB : List Value} {B newId initId : String} {x y1 y2 y3 : Str} {A1 A2 A3 : Addr} {b : Bool} {p p0 p1 p2 p3 pos pos0 pos1 : Pos} {kk : Nat} (hgi : Gl X "isinstance") (hm : X.mg "isinstance" = none) (hb : bootBuiltins "isinstance" = some (.builtin "isinstance"))
    (F : ExcBaseFacts B newId initId bmB) (hq : PySem.W.excIn X.K C bmB newId = true) (gC : X.mg x = some (.ref C)) (kC : PySem.W.keepIn X.K (.ref C) = true) (hE : ErrK X.K C) (hg : Gl X x)
    (g1 : Gl X y1) (m1 : X.mg y1 = some (.ref A1)) (g2 : Gl X y2) (m2 : X.mg y2 = some (.ref A2)) (g3 : Gl X y3) (m3 : X.mg y3 = some (.ref A3)) (hk : PySem.W.kitAny X.K (.ref C) [.ref A1, .ref A2, .ref A3] = some b) (hd : (x == ("__debug__" : Str)) = false := by decide) (hd1 : (y1 == ("__debug__" : Str)) = false := by decide) (hd2 : (y2 == ("__debug__" : Str)) = false := by decide) (hd3 : (y3 == ("__debug__" : Str)) = false := by decide)
    (hs1 : starEach [.Call (.Name x p0) [] [] pos0, .Tuple [.Name y1 p1, .Name y2 p2, .Name y3 p3] kk pos1] X.env = (false, eval (.Call (.Name x p0) [] [] pos0) X.env) :: starEach [.Tuple [.Name y1 p1, .Name y2 p2, .Name y3 p3] kk pos1] X.env := by rfl)
    (hs2 : starEach [.Tuple [.Name y1 p1, .Name y2 p2, .Name y3 p3] kk pos1] X.env = (false, eval (.Tuple [.Name y1 p1, .Name y2 p2, .Name y3 p3] kk pos1) X.env) :: starEach [] X.env := by rfl)
    (hs3 : starEach [.Name y1 p1, .Name y2 p2, .Name y3 p3] X.env = (false, eval (.Name y1 p1) X.env) :: starEach [.Name y2 p2, .Name y3 p3] X.env := by rfl) (hs4 : starEach [.Name y2 p2, .Name y3 p3] X.env = (false, eval (.Name y2 p2) X.env) :: starEach [.Name y3 p3] X.env := by rfl) (hs5 : starEach [.Name y3 p3] X.env = (false, eval (.Name y3 p3) X.env) :: starEach [] X.env := by rfl)
    (hpl : (backTo pos (starEach [.Tuple [.Name y1 p1, .Name y2 p2, .Name y3 p3] kk pos1] X.env)).any (·.1) = false := by rfl) :
    JE X W G 0 (.Call (.Name "isinstance" p) [.Call (.Name x p0) [] [] pos0, .Tuple [.Name y1 p1, .Name y2 p2, .Name y3 p3] kk pos1] [] pos) (fun _ Q _ => Q (.bl b)) := by
  refine peImp (pe_callB call_isE0 hgi hm hb (pa_cons (pe_exc0 F hq gC kC hg hd) (pa_cons (pe_tup (pa_cons (pe_glob g1 m1 (v := .ref A1) rfl (hd := hd1)) (pa_cons (pe_glob g2 m2 (v := .ref A2) rfl (hd := hd2)) (pa_cons (pe_glob g3 m3 (v := .ref A3) rfl (hd := hd3)) pa_nil hs5) hs4) hs3)) pa_nil hs2) hs1) (by decide) (by decide) hs1 hpl) fun σ H Q h => ?_
  obtain ⟨n, Z, env, Q', E', pr, w, t, q, -⟩ := h
  intro a ha
  refine ⟨by rw [sizeLine_eq]; show 3 ≤ 16777216; decide, fun tp ht => ?_⟩
  have g1' := pr.gd.new (o := ExO (.ref C) a) ha
  have g2' := g1'.new (o := .tup [.ref A1, .ref A2, .ref A3]) ht
  have s1 : Stp G [] Z H [] Z (upd H a (ExO (.ref C) a)) [] := Stp.fresh ha
  have s2 : Stp G [] Z (upd H a (ExO (.ref C) a)) [] Z (upd (upd H a (ExO (.ref C) a)) tp (.tup [.ref A1, .ref A2, .ref A3])) [] := Stp.fresh ht
  have ne : a ≠ tp := fun e => by rw [← e, upd_same] at ht; cases ht
  exact ⟨a, C, tp, _, _, b, rfl, hE, by rw [upd_ne ne, upd_same], upd_same, vals3, hk, q (.bl b) (.bl b) [] Z _ (((Rs.zero pr).op s1 g1').op s2 g2') (Ob.flat ⟨rfl, rfl⟩) t⟩
end
end TT

set_option Elab.async false
set_option linter.all false
set_option maxRecDepth 100000
set_option maxHeartbeats 2000000
namespace TT
open PySem PySem.Spec PyProof.Rows L2
/-! ### xs.extend([..]) -/
section
variable {X : Cx} {W : WX} {G : Bg} {c c1 c2 c3 : Nat} {o e : Expr} {pos apos cpos : Pos} {t : RM}
def rExtS (i : Nat) (t : RM) : RS := fun P env => match env[i]? with
  | some (some (.lst true _)) => t env (fun d env' => match d, env'[i]? with
    | .lst true es, some (some (.lst true ds)) => ds.length + es.length ≤ sizeLine ∧ P.nx (env'.set i (some (.lst true (ds ++ es))))
    | _, _ => False) (fun x env' => P.ex x env')
  | _ => False
theorem js_extend {i : Nat} (ho : PE X o (tVar i)) (he : JM X W G c e t) (hs : swapsWith (.Call (.Attribute o "extend" apos) [e] [] cpos) none pos.line X.env = pure false := by rfl)
    (hbase : attributeBase o "extend" X.env (eval o X.env) = eval o X.env := by rfl) (hline : (apos.endLine == cpos.line) = true := by rfl) (hse : starEach [e] X.env = (false, eval e X.env) :: starEach [] X.env := by rfl) 
    (hfew : ((backTo cpos (starEach [e] X.env)).all (fun x => !x.1) && (backToKw cpos (keywordEach [] X.env)).all (fun x => x.1.isSome)
      && decide (([e] : List Expr).length + ([] : List Keyword).length + (if ([] : List Keyword).isEmpty then 0 else 1) < 30)) = true := by rfl) :
    JS X W G c (.Expr (.Call (.Attribute o "extend" apos) [e] [] cpos) pos) (rExtS i t) := by
  refine psImp (ps_expr (pe_bm PySem.F.plainAttrs_list PySem.F.slot_list_extend PySem.F.type_list_extend mt_extend ho (pa_cons he pa_nil hse) hbase hfew hline hse rfl) hs) fun Dn σ H h => ?_
  obtain ⟨n, Z, env, F, P, l, s, t, qn, qb, qc, qr, qx⟩ := h
  unfold rExtS at t
  split at t
  · rename_i ds0 h0
    obtain ⟨v0, fp0, e1, e2, rp0⟩ := s.at_ i _ h0
    obtain ⟨a, vs0, f0, ev, ha, _, _⟩ := rp0
    refine ⟨v0, e1, by rw [ev]; exact .inl ⟨rfl, _, SqL.of ha⟩, n, Z, env, F, _, _, l, s, t, fun d v fp Z1 env1 F1 H1 s1 o1 ap st t1 => ?_, fun x cls da Z1 env1 F1 H1 e1 xr t1 => qx x cls da Z1 env1 σ H1 F1 e1 xr t1⟩
    split at t1
    · rename_i es ds h1
      obtain ⟨b2, zs, fpe, ev2, hb2, rle, efp⟩ := o1.rp
      have nd2 : fpe.Nodup := (List.nodup_cons.mp (efp ▸ o1.nd)).2
      have in2 : ∀ b ∈ fpe, b ∈ fp := fun b m => by rw [efp]; exact List.mem_cons_of_mem _ m
      obtain ⟨v1, fp1, e3, e4, rp1⟩ := s1.at_ i _ h1
      rw [e1] at e3
      cases e3
      obtain ⟨a1, vs, f, ev1, ha1, rl, ef⟩ := rp1
      rw [ev] at ev1
      cases ev1
      subst ef
      refine ⟨a, b2, vs, zs, ev, by rw [ev2], ha1, hb2, by rw [rl.len, rle.len]; exact t1.1, ?_⟩
      have nd1 : (a :: f).Nodup := by
        obtain ⟨nd, _⟩ := flat_drop F1 i (a :: f) e4 s1.nd
        exact nd
      have na : a ∉ f := (List.nodup_cons.mp nd1).1
      have ma : a ∈ F1.flatten := memF e4 a List.mem_cons_self
      have nfp : a ∉ fpe := fun m => ap a (in2 a m) a ma rfl
      have kU : ∀ b u, H1 b = some u → b ∉ [a] → (upd H1 a (.lst (vs ++ zs))) b = some u := fun b u hb nb => by
        rw [upd_ne fun e => nb (by simp [e])]; exact hb
      have thU : ∀ b u, H1 b = some u → ∃ u', (upd H1 a (.lst (vs ++ zs))) b = some u' := fun b u hb => by
        by_cases hba : b = a
        · subst hba; exact ⟨_, upd_same⟩
        · exact ⟨u, by rw [upd_ne hba]; exact hb⟩
      have nZ : ¬ Z1 a := s1.nz a ma
      have kR : ∀ (fx : List Addr), a ∉ fx → ∀ b u, H1 b = some u → (¬ Mut (some u) ∨ Z1 b ∨ b ∈ fx) → (upd H1 a (.lst (vs ++ zs))) b = some u := fun fx hx b u hb cs => by
        refine kU b u hb fun m => ?_
        have : b = a := by simpa using m
        subst this
        rcases cs with cs | cs | cs
        · rw [ha1] at hb; cases hb; exact cs trivial
        · exact nZ cs
        · exact hx cs
      have sub1 : ∀ b ∈ (F1.set i []).flatten, b ∈ F1.flatten := fun b m => (flat_set F1 i [] b m).elim (fun z => (nomatch z)) id
      obtain ⟨_, ap1⟩ := flat_drop F1 i (a :: f) e4 s1.nd
      have oN : Ob X.K G Z1 (upd H1 a (.lst (vs ++ zs))) (.lst true (ds ++ es)) v0 (a :: (f ++ fpe)) := by
        refine ⟨⟨a, vs ++ zs, f ++ fpe, ev, upd_same, (RpL.keep (fun _ z => z) _ _ _ (kR f na) rl).app (RpL.keep (fun _ z => z) _ _ _ (kR fpe nfp) rle), rfl⟩, ?_, fun b m => ?_, fun b m => ?_⟩
        · refine List.nodup_cons.mpr ⟨fun m => (List.mem_append.mp m).elim na nfp, List.nodup_append.mpr ⟨(List.nodup_cons.mp nd1).2, nd2, fun b hb b' hb' e => ap b' (in2 b' hb') b (memF e4 b (List.mem_cons_of_mem _ hb)) e.symm⟩⟩
        · rcases List.mem_cons.mp m with m | m
          · rw [m]; exact nZ
          · exact (List.mem_append.mp m).elim (fun m => s1.nz b (memF e4 b (List.mem_cons_of_mem _ m))) (fun m => o1.nz b (in2 b m))
        · rcases List.mem_cons.mp m with m | m
          · rw [m]; exact s1.nb a ma
          · exact (List.mem_append.mp m).elim (fun m => s1.nb b (memF e4 b (List.mem_cons_of_mem _ m))) (fun m => o1.nb b (in2 b m))
      have sN := s1.mutate (H' := upd H1 a (.lst (vs ++ zs))) (M := [a]) h1 e1 e4 kU thU (fun b m => by
        have : b = a := by simpa using m
        rw [this]; exact List.mem_cons_self) oN (fun b hb b' hb' => by
        rcases List.mem_cons.mp hb with m | m
        · rw [m]; exact ap1 a List.mem_cons_self b' hb'
        · rcases List.mem_append.mp m with m | m
          · exact ap1 b (List.mem_cons_of_mem _ m) b' hb'
          · exact ap b (in2 b m) b' (sub1 b' hb'))
      refine qn Z1 _ σ _ _ ⟨⟨fun b u hb nb nA => ?_, fun b u hb => ?_, st.zz, st.zn, fun b m => ?_⟩, sN⟩ t1.2
      · have q1 := st.keep b u hb nb nA
        refine kU b u q1 fun m => ?_
        have : b = a := by simpa using m
        subst this
        rcases st.fn b (List.mem_append_right _ ma) with z | z
        · exact nA z
        · rw [hb] at z; cases z
      · obtain ⟨u', q1⟩ := st.there b u hb
        exact thU b u' q1
      · refine st.fn b ?_
        rcases flat_set F1 i (a :: (f ++ fpe)) b m with m | m
        · rcases List.mem_cons.mp m with m | m
          · exact List.mem_append_right _ (by rw [m]; exact ma)
          · rcases List.mem_append.mp m with m | m
            · exact List.mem_append_right _ (memF e4 b (List.mem_cons_of_mem _ m))
            · exact List.mem_append_left _ (in2 b m)
        · exact List.mem_append_right _ m
    · exact t1.elim
  · exact t.elim
end
/-! ### repr of None, numbers, texts too -/
def okA : D → Prop
  | .non => True
  | .bl _ => True
  | .int i => i.natAbs.log2 < 1920
  | .str x => (reprText x).length ≤ sizeLine
  | d => isBox d = true ∧ sm 60 d = true ∧ okS d = true ∧ wtD d ≤ 2 ^ 20
def shA : D → Str
  | .non => "None"
  | .bl b => if b then "True" else "False"
  | .int i => Str.ofString (toString i)
  | .str x => reprText x
  | d => shw d
def gReprA : List D → (D → Prop) → Prop := fun ds Q => match ds with
  | [d] => okA d ∧ Q (.str (shA d))
  | _ => False
def rReprA (K : PySem.W.Frag) : List V → Hp → VK → Prop := fun xs H Q => rReprG K xs H Q ∨ (xs = [.non] ∧ Q (.str "None") H) ∨ (∃ i, xs = [.int i] ∧ i.natAbs.log2 < 1920 ∧ Q (.str (Str.ofString (toString i))) H) ∨ ∃ x, xs = [.str x] ∧ (reprText x).length ≤ sizeLine ∧ Q (.str (reprText x)) H
theorem call_reprA {X : Cx} (hg : X.A.guards = some []) (hu : X.A.units + 65 < cLine) : CallR X (.builtin "repr") (rReprA X.K) := by
  intro pins s σ H xs us Q I r h
  rcases h with h | ⟨e, q⟩ | ⟨i, e, hi, q⟩ | ⟨x, e, hx, q⟩
  · exact call_reprG hg hu pins s σ H xs us Q I r h
  · subst e
    obtain ⟨u, rfl, ru⟩ := vals1 r
    obtain rfl : u = .none := ru
    exact PySem.P.repr_of_none ⟨.str "None", H, I.tok _, ⟨_, rfl⟩, q⟩
  · subst e
    obtain ⟨u, rfl, t, rfl⟩ := vals1 r
    exact PySem.P.repr_of_int hi ⟨.str _, H, I.tok _, ⟨_, rfl⟩, q⟩
  · subst e
    obtain ⟨u, rfl, t, rfl⟩ := vals1 r
    exact PySem.P.repr_of_str ⟨.str _, H, I.tok _, ⟨_, rfl⟩, q⟩ hx
theorem v_reprA {X : Cx} {G : Bg} : VOpL X G (rReprA X.K) gReprA := by
  intro n Z H ds xs fx Q' Q g0 o t q
  unfold gReprA at t
  split at t
  · rename_i d
    obtain ⟨v, e, o1⟩ := obL1 o
    obtain ⟨hok, t⟩ := t
    cases d with
    | non =>
      have e1 : v = .non := o1.rp.1
      exact .inr (.inl ⟨by rw [e, e1], vdone (d := .str "None") g0 q ⟨rfl, rfl⟩ t⟩)
    | bl b => exact .inl (v_reprG n Z H [.bl b] xs fx Q' Q g0 o t q)
    | int i =>
      have e1 : v = .int i := o1.rp.1
      exact .inr (.inr (.inl ⟨i, by rw [e, e1], hok, vdone (d := .str (Str.ofString (toString i))) g0 q ⟨rfl, rfl⟩ t⟩))
    | str x =>
      have e1 : v = .str x := o1.rp.1
      exact .inr (.inr (.inr ⟨x, by rw [e, e1], hok, vdone (d := .str (reprText x)) g0 q ⟨rfl, rfl⟩ t⟩))
    | tup ds => exact .inl (v_reprG n Z H [.tup ds] xs fx Q' Q g0 o ⟨hok.1, hok.2.1, hok.2.2.1, hok.2.2.2, t⟩ q)
    | lst ow ds => exact .inl (v_reprG n Z H [.lst ow ds] xs fx Q' Q g0 o ⟨hok.1, hok.2.1, hok.2.2.1, hok.2.2.2, t⟩ q)
    | _ => cases hok.1
  · exact t.elim
end TT

set_option Elab.async false
set_option linter.all false
set_option maxRecDepth 100000
set_option maxHeartbeats 2000000
namespace L2
open PySem PySem.Spec PyProof.Rows TT
theorem Inv.track {X : Cx} {pins : List (Addr × Obj)} {σ : L2.St} {H : Hp} {s : Shared} {a : Addr} {oe : Obj} {vs : Array Value} {o : HO} (J : L2.Inv X pins σ H s) (hget : s.heap.get? a = some oe) (hd : oe.data = .fields vs) (na : H a = none) (nL : a ≠ X.env.locals)
    (new : X.s_0.heap.get? a = none) (np : ∀ p ∈ X.pn ++ pins, p.1 ≠ a) (ob : ObjOk X.prog X.w (upd H a o) s.heap a o) : L2.Inv X pins σ (upd H a o) s := by
  have ne0 : ∀ b o', X.s_0.heap.get? b = some o' → b ≠ a := fun b o' h e => by rw [e, new] at h; cases h
  have nH : ∀ b u, H b = some u → b ≠ a := fun b u h e => by rw [e, na] at h; cases h
  refine ⟨J.ok, J.os, J.bare, ⟨J.base.keep, J.base.slot, fun b o' h1 h2 h3 => ?_, J.base.there, fun b xs h => ?_, fun b o' u h => ?_, fun b ps h => ?_⟩, J.loc, J.cell, ?_, fun x c h => ?_, fun p hp => ?_, HOk.laidN J.hok (fun _ _ h => h) na ob, J.len⟩
  · rw [upd_ne (ne0 b o' h1)]; exact J.base.free b o' h1 h2 h3
  · have := J.base.tups b xs h
    rw [upd_ne (nH _ _ this)]; exact this
  · have := J.base.frzs b o' u h
    rw [upd_ne (nH _ _ this)]; exact this
  · obtain ⟨m, h2⟩ := J.base.tbls b ps h
    exact ⟨m, by rw [upd_ne (nH _ _ h2)]; exact h2⟩
  · rw [upd_ne (Ne.symm nL)]; exact J.free
  · rw [upd_ne (fun e => ?_)]
    · exact J.freeC x c h
    · obtain ⟨v, hc⟩ := J.cell x c h
      subst e
      unfold Heap.IsCell at hc
      first
        | (rw [hget] at hc; cases hc; cases hd)
        | (obtain ⟨o2, h2, h3⟩ := hc; rw [hget] at h2; cases h2; rw [hd] at h3; cases h3)
  · obtain ⟨h1, h2, h3, h4, h5⟩ := J.pin p hp
    exact ⟨h1, by rw [upd_ne (np p hp)]; exact h2, h3, h4, h5⟩
/-- the caught object, held beyond its suite -/
def trkE (a : Addr) (cls : Value) (d : Option Addr) (H : Hp) : Hp := match cls, d with
  | .ref C, some dd => upd H a (ErO C a dd)
  | _, _ => H
theorem Inv.untry {X : Cx} {pins : List (Addr × Obj)} {σ : L2.St} {H : Hp} {s : Shared} {a : Addr} {oe : Obj} {vs : Array Value} {cls : Value} {d : Option Addr} (S : L2.Inv (X.suite a ((a, oe) :: (X.pn ++ pins))) [] σ H s) (ok : X.Ok) (hz : Zc cls d oe) (hd : oe.data = .fields vs)
    (new : X.s_0.heap.get? a = none) (np : ∀ p ∈ X.pn ++ pins, p.1 ≠ a) : L2.Inv X pins σ (trkE a cls d H) s := by
  have J := Inv.unsuite S ok
  obtain ⟨h1, h2, h3, h4, h5⟩ := S.pin (a, oe) (List.mem_append_left _ List.mem_cons_self)
  unfold trkE
  split
  · rename_i C dd
    exact J.track h1 hd h2 h3 new np ⟨⟨oe, vs, h1, hz.1, hz.2, hd⟩, ⟨oe, h1⟩, fun a b ⟨oe, vs, g, r⟩ k => ⟨oe, vs, k _ g, r⟩⟩
  · exact J
def wAsK (K : PySem.W.Frag) (c : Value) (i : Nat) (ts : Addr → Value → Option Addr → TS) (Wout : WX) (D : Ends) : WX := fun cls d σ H =>
  ∃ b, PySem.W.exmOne K cls c = some b ∧ (b = true → ∀ a : Addr, H a = none → ts a cls d
    { nx := fun σ' H' => D.nx (σ'.set i none) (trkE a cls d H'), rt := D.rt, bk := fun σ' H' => D.bk (σ'.set i none) (trkE a cls d H'), ct := fun σ' H' => D.ct (σ'.set i none) (trkE a cls d H') } (σ.set i (some (.ref a))) H) ∧ (b = false → Wout cls d σ H)
open PySem.HandSPX in
theorem ps_try_asK {X : Cx} {x n : Str} {c : Value} {i : Nat} {body suite : List Stmt} {b₀ : Stmt} {np pos pos' : Pos} {tb : WX → TS} {ts : Addr → Value → Option Addr → TS} {Wout : WX} (hs : X.stack = X.env :: X.outer) (hf : X.env.frame = some X.env.locals) (hN : X.N.Nodup) (hi : X.N[i]? = some n) (hln : X.env.kindOf n = some NameKind.local) (hc : Names X x c) (hex : X.ex = [])
    (tk : Takes X Wout) (hb : ∀ (W : WX) (pn : List (Addr × Obj)) (xe : Value → Shared → Prop), Takes (X.tr pn xe) W → PassesOwn (model X.prog X.w) X.A X.env xe → PSs (X.tr pn xe) body (tb W))
    (hsu : ∀ (a : Addr) (oe : Obj) (cls : Value) (d : Option Addr) (pn : List (Addr × Obj)), Zc cls d oe → (∃ vs, oe.data = .fields vs) → PSs (X.suite a ((a, oe) :: pn)) (b₀ :: suite) (ts a cls d)) :
    PS X (.Try body [.ExceptHandler (some (.Name x np)) (some n) (b₀ :: suite) pos'] [] [] pos) (fun D σ H => tb (wAsK X.K c i ts Wout D) D σ H) := by
  refine ⟨fun pins s σ H D I h => ?_⟩
  have ok := I.ok
  have hfr : X.A.frames = some (X.env :: X.outer) := by rw [ok.frames, hs]
  have hloc : L2.Loc X.env.scope n := Or.inl hln
  refine wpAny_Try_except (wpAny_mono ((hb (wAsK X.K c i ts Wout D) (X.pn ++ pins) (fun e s₁ => wpAny (model X.prog X.w) X.A (noteFrame e X.env) (fun _ s₂ => wpAny (model X.prog X.w) X.A (setFlight e none) (fun _ s₃ => wpAny (model X.prog X.w) X.A (handleBy e X.env [.ExceptHandler (some (.Name x np)) (some n) (b₀ :: suite) pos']) (SP X pins D) X.xe s₃) X.xe s₂) X.xe s₁) (fun u s' xx => ?_) PassesOwn.looking).run [] s σ H D (Inv.toTry I _) h) (fun f s1 hsp => ?_) (fun _ _ h => h))
  · obtain ⟨a, B, sI, pins', σ', H', cls, d, rfl, J', nb, up, sky, na, os, ag, b, hb1, hyes, hno⟩ := xx
    have J := Inv.ofTry J' ok
    rw [hs] at sky
    refine Sky.land Zc.steady hfr hf sky fun h3 fl3 up3 => ?_
    have J3 := Inv.landed (s' := ⟨h3, s'.gens, s'.drawn, s'.toks, s'.os⟩) J nb fl3.1 (Heap.UpToSlots.trans up up3) os ag
    obtain ⟨oe3, vs3, he3, hz3, hd3⟩ := FlyingZ.there fl3
    have hnF : a ∉ frs (X.env :: X.outer) := fun hm => by
      obtain ⟨-, o', e', hnf⟩ := Heap.FunFrames.mem fl3.2.2.1 hm
      rw [he3] at e'
      cases e'
      exact hnf _ hd3
    have nL : a ≠ X.env.locals := fun z => hnF (List.mem_filterMap.mpr ⟨X.env, List.mem_cons_self, by rw [hf, z]⟩)
    have nF : a ∉ X.fs := fun hm => by
      obtain ⟨e, he, q⟩ := List.mem_filterMap.mp hm
      exact hnF (List.mem_filterMap.mpr ⟨e, List.mem_cons_of_mem _ he, q⟩)
    have nB : ∀ o, sI.heap.get? a = some o → False := fun o h => by
      have := nb a o h (by rw [hs]; exact hnF)
      rw [fl3.2.1] at this
      cases this
    have new : X.s_0.heap.get? a = none := by
      cases e : X.s_0.heap.get? a with
      | none => rfl
      | some o =>
        obtain ⟨o', h'⟩ := J.base.there a o e (by rw [hex]; exact fun m => nomatch m)
        exact (nB o' h').elim
    have npp : ∀ p ∈ X.pn ++ pins, p.1 ≠ a := fun p hp e => by
      obtain ⟨h1, -⟩ := J.pin p hp
      rw [e] at h1
      exact nB _ h1
    have S3 := Inv.suite J3 he3 hd3 na nL nF
    refine wpAny_handleBy_cons (codeAny_handlers_test ?_) (by intro z; cases z)
    have LM := PySem.W.exm_one (M := model X.prog X.w) (Inv.kIn J3) (fun A Q E s k q => wpAny_typeOf_ref (k a oe3 he3) (by rw [hz3.1]; exact q)) hb1
    have test : ∀ {Q : Value → Shared → Prop} {E : Value → Shared → Prop}, Q c ⟨h3, s'.gens, s'.drawn, s'.toks, s'.os⟩ → wpAny (model X.prog X.w) (X.A.mark (some (Value.ref a))) (eval (.Name x np) X.env) Q E ⟨h3, s'.gens, s'.drawn, s'.toks, s'.os⟩ := fun q => by
      obtain ⟨hg, hdbg, hm | ⟨hm, hv, hnn⟩⟩ := hc
      · exact ld_glob S3 hg hm q hdbg
      · exact ld_blt S3 hg hm hv q hnn hdbg
    refine test (PySem.W.Looks.here LM ?_)
    cases b with
    | false =>
      obtain ⟨k1, k2, k3, oe, vs, T, oT, ts', he, hz, hd, h1, hr⟩ := id fl3
      have fin : wpAny (model X.prog X.w) X.A (setFlight (Value.ref a) X.env.frame) (fun _ s4 => wpAny (model X.prog X.w) X.A (throw (Value.ref a)) (SP X pins D) X.xe s4) X.xe ⟨h3, s'.gens, s'.drawn, s'.toks, s'.os⟩ := by
        rw [hf]
        exact HandSPX.setFlight_upZ fl3 fun h4 hh4 up4 => wpAny_throw (tk (.ref a) _ ⟨a, B, sI, pins, σ', H', cls, d, rfl, J, nb, Heap.UpToSlots.trans (Heap.UpToSlots.trans up up3) up4, Or.inr (Or.inr (by rw [hs]; exact hh4)), na, os, ag, hno rfl⟩)
      refine wpAny_handleBy_nil (wpAny_bind (wpAny_field he hd h1 ?_))
      rw [if_neg (by simp)]
      exact wpAny_bind fin
    | true =>
      refine codeAny_handlers_suite_as (HandSPX.lands_againZ fl3 fun h4 fl4 up4 => ?_)
      have J4 := Inv.landed (s' := ⟨h4, s'.gens, s'.drawn, s'.toks, s'.os⟩) J nb fl4.1 (Heap.UpToSlots.trans (Heap.UpToSlots.trans up up3) up4) os ag
      obtain ⟨oe4, vs4, he4, hz4, hd4⟩ := FlyingZ.there fl4
      have S4 := Inv.suite J4 he4 hd4 na nL nF
      refine store_ok (X := X.suite a ((a, oe4) :: (X.pn ++ pins))) (v := .ref a) S4 hN hi hloc rfl (fun s5 S5 => wpAny_mono ((hsu a oe4 cls d (X.pn ++ pins) hz4 ⟨vs4, hd4⟩).run [] s5 _ H' _ S5 (hyes rfl a na)) (fun f s6 hsp => ?_) ?_) (hf := Or.inr hln)
      · cases f with
        | next =>
          obtain ⟨σ6, H6, S6, q6⟩ := hsp
          exact gone_ok (Inv.untry S6 ok hz4 hd4 new npp) hN hi hln fun s7 J7 => ⟨_, _, J7, q6⟩
        | brk =>
          obtain ⟨σ6, H6, S6, q6⟩ := hsp
          exact gone_ok (Inv.untry S6 ok hz4 hd4 new npp) hN hi hln fun s7 J7 => ⟨_, _, J7, q6⟩
        | cont =>
          obtain ⟨σ6, H6, S6, q6⟩ := hsp
          exact gone_ok (Inv.untry S6 ok hz4 hd4 new npp) hN hi hln fun s7 J7 => ⟨_, _, J7, q6⟩
        | ret u =>
          obtain ⟨v, σ6, H6, S6, r, q6⟩ := hsp
          exact gone_ok (Inv.unsuite S6 ok) hN hi hln fun s7 J7 => ⟨v, _, H6, J7, r, q6⟩
      · exact fun _ _ h => h.elim
  · cases f with
    | next =>
      obtain ⟨σ', H', J', q⟩ := hsp
      exact wpAny_execs_nil ⟨σ', H', Inv.ofTry J' ok, q⟩
    | brk =>
      obtain ⟨σ', H', J', q⟩ := hsp
      exact ⟨σ', H', Inv.ofTry J' ok, q⟩
    | cont =>
      obtain ⟨σ', H', J', q⟩ := hsp
      exact ⟨σ', H', Inv.ofTry J' ok, q⟩
    | ret u =>
      obtain ⟨v, σ', H', J', r, q⟩ := hsp
      exact ⟨v, σ', H', Inv.ofTry J' ok, r, q⟩
end L2

set_option Elab.async false
set_option linter.all false
set_option maxRecDepth 100000
set_option maxHeartbeats 2000000
namespace TT
open PySem PySem.Spec PyProof.Rows L2
/-! ### try .. except c as n: m = n -/
theorem Stt.fresh {K : PySem.W.Frag} {G : Bg} {n : Nat} {Z : Zs} {H : Hp} {env : Ev} {σ : L2.St} {F : List (List Addr)} {a : Addr} {o : HO} (s : Stt K G n Z H env σ F) (na : H a = none) : Stt K G n (fun b => Z b ∨ b = a) (upd H a o) env σ F := by
  have kU : ∀ b u, H b = some u → (upd H a o) b = some u := fun b u h => by rw [upd_ne (ne_of_none h na)]; exact h
  have nm : ∀ b ∈ F.flatten, b ≠ a := fun b m e => by
    have := s.mt b m
    rw [e, na] at this
    exact this
  refine ⟨⟨s.gd.bag.keep fun b i => ?_, fun b z => ?_, fun b z => ?_⟩, s.len, s.lenF, fun i d h => ?_, s.nd, fun b m z => z.elim (s.nz b m) (nm b m), s.nb, fun b m => ?_⟩
  · obtain ⟨u, h⟩ := s.gd.bag.tracked i
    rw [kU b u h, h]
  · rcases z with z | z
    · exact s.gd.nz b z
    · intro i
      obtain ⟨u, h⟩ := s.gd.bag.tracked i
      rw [z, na] at h; cases h
  · rcases z with z | z
    · obtain ⟨u, h⟩ := s.gd.tr b z
      exact ⟨u, kU b u h⟩
    · exact ⟨o, by rw [z, upd_same]⟩
  · obtain ⟨v, fp, e1, e2, r⟩ := s.at_ i d h
    exact ⟨v, fp, e1, e2, Rp.keep (fun _ z => .inl z) d v fp (fun b u h _ => kU b u h) r⟩
  · rw [upd_ne (nm b m)]
    exact s.mt b m
theorem Send.fresh {K : PySem.W.Frag} {G : Bg} {n c : Nat} {Z Z1 : Zs} {H H1 : Hp} {A : List Addr} {env1 : Ev} {σ1 : L2.St} {F1 : List (List Addr)} {a : Addr} {o : HO} (s : Send K G n c Z H A Z1 env1 σ1 H1 F1) (na : H1 a = none) : Send K G n c Z H A (fun b => Z1 b ∨ b = a) env1 σ1 (upd H1 a o) F1 := by
  have kU : ∀ b u, H1 b = some u → (upd H1 a o) b = some u := fun b u h => by rw [upd_ne (ne_of_none h na)]; exact h
  have st : Stp G [] Z1 H1 F1.flatten (fun b => Z1 b ∨ b = a) (upd H1 a o) F1.flatten :=
    ⟨fun b u h _ _ => kU b u h, fun b u h => ⟨u, kU b u h⟩, fun _ z => .inl z, fun b z => z.elim .inl fun z => .inr (.inr (by rw [z]; exact na)), fun _ m => .inl m⟩
  exact ⟨s.st.trans st (fun a h => (nomatch h)), s.stt.fresh na⟩
def rTryKeep (ex : Str → Option Bool) (i j : Nat) (tb : RS) : RS := fun P env => tb { nx := P.nx, rt := P.rt, bk := P.bk, ct := P.ct, ex := fun x env1 => match ex x.1 with
  | some true => i < env1.length ∧ P.nx ((env1.set j (some (.err x.1 x.2))).set i none)
  | some false => P.ex x env1
  | none => False } env
section
variable {X : Cx} {W : WX} {G : Bg} {c1 : Nat}
theorem js_tryKeep {x n : Str} {cv : Value} {i j : Nat} {body : List Stmt} {b₀ : Stmt} {np pos pos' : Pos} {tb : RS} (ex : Str → Option Bool) (hij : i ≠ j) (hs : X.stack = X.env :: X.outer) (hf : X.env.frame = some X.env.locals) (nd : X.N.Nodup) (hi : X.N[i]? = some n) (hk : X.env.kindOf n = some NameKind.local)
    (hn : Names X x cv) (fam : Fam X cv ex) (hex : X.ex = []) (tk : Takes X W)
    (hcn : ∀ y cls, ex y = some true → X.mg y = some cls → ∃ C, cls = .ref C ∧ cnm X.K C = some y)
    (hb : ∀ (W' : WX) (pn : List (Addr × Obj)) (xe : Value → Shared → Prop), Takes (X.tr pn xe) W' → PassesOwn (model X.prog X.w) X.A X.env xe → JB (X.tr pn xe) W' G c1 body tb)
    (hsu : ∀ (a : Addr) (oe : Obj) (pn : List (Addr × Obj)), PSs (X.suite a ((a, oe) :: pn)) [b₀] (tAsg (tVar i) (gName j))) :
    JS X W G c1 (.Try body [.ExceptHandler (some (.Name x np)) (some n) [b₀] pos'] [] [] pos) (rTryKeep ex i j tb) := by
  refine psImp (ps_try_asK (i := i) (tb := fun W' => liSt X W' G c1 tb) (ts := fun _ _ _ => tAsg (tVar i) (gName j)) hs hf nd hi hk hn hex tk (fun W' pn xe tk' po => hb W' pn xe tk' po) (fun a oe cls d pn hz hf2 => hsu a oe pn)) fun Dn σ H h => ?_
  obtain ⟨n, Z, env, F, P, l, s, t, qn, qb, qc, qr, qx⟩ := h
  refine ⟨n, Z, env, F, _, l, s, t, fun Z' env' σ' H' F' e q => qn Z' env' σ' H' F' e q, fun Z' env' σ' H' F' e q => qb Z' env' σ' H' F' e q, fun Z' env' σ' H' F' e q => qc Z' env' σ' H' F' e q, fun d v fp Z' H' st g o q => qr d v fp Z' H' st g o q, fun y cls da Z1 env1 σ1 H1 F1 e1 xr t1 => ?_⟩
  have t1' : (match ex y.1 with
    | some true => i < env1.length ∧ P.nx ((env1.set j (some (.err y.1 y.2))).set i none)
    | some false => P.ex y env1
    | none => False) := t1
  clear t1
  cases hx : ex y.1 with
  | none => rw [hx] at t1'; exact t1'.elim
  | some b =>
    rw [hx] at t1'
    obtain ⟨hm, dd, v, ed, hd, rp⟩ := xr
    refine ⟨b, fam.is _ _ _ hx hm, fun eb a na => ?_, fun eb => ?_⟩
    · subst eb
      subst ed
      obtain ⟨C, ec, hC⟩ := hcn _ _ hx hm
      subst ec
      have hl : i < σ1.length := by rw [← e1.stt.len]; exact t1'.1
      have kU : ∀ b u, H1 b = some u → (upd H1 a (ErO C a dd)) b = some u := fun b u h => by rw [upd_ne (ne_of_none h na)]; exact h
      have o : Ob X.K G (fun b => Z1 b ∨ b = a) (upd H1 a (ErO C a dd)) (.err y.1 y.2) (.ref a) [] := Ob.flat ⟨a, C, dd, v, rfl, hC, upd_same, .inr rfl, kU _ _ hd, Rp.keep (fun _ z => .inl z) _ _ _ (fun b u h _ => kU b u h) rp, rfl⟩
      have q := qn _ _ _ _ _ (((e1.fresh (o := ErO C a dd) na).hold j o).erase i) t1'.2
      refine ⟨.ref a, by rw [List.getElem?_set_self hl], ?_⟩
      show Dn.nx (((σ1.set i (some (.ref a))).set j (some (.ref a))).set i none) (upd H1 a (ErO C a dd))
      rw [List.set_comm _ _ hij, List.set_set]
      exact q
    · subst eb
      exact qx y cls da Z1 env1 σ1 H1 F1 e1 ⟨hm, dd, v, ed, hd, rp⟩ t1'
end
end TT

set_option Elab.async false
set_option linter.all false
set_option maxRecDepth 100000
set_option maxHeartbeats 2000000
namespace TT
open PySem PySem.Spec PyProof.Rows L2
/-! ### a list's method with one argument, its answer by value -/
def isL : D → Bool
  | .lst _ _ => true
  | _ => false
def rMt1 (ta tb : RE) (g : D → D → (D → Prop) → Prop) : RE := fun env Q E => ta env (fun x => isL x = true ∧ tb env (fun y => g x y Q) E) E
section
variable {X : Cx} {W : WX} {G : Bg} {c1 c2 : Nat} {o e : Expr} {ta tb : RE}
theorem ty_lst {Z : Zs} {H : Hp} {d : D} {v : V} {fp : List Addr} (h : isL d = true) (o : Ob X.K G Z H d v fp) : tyV X.K "list" v H := by
  cases d with
  | lst ow ds =>
    cases ow with
    | true =>
      obtain ⟨a, vs, f, e, ha, -⟩ := o.rp
      rw [e]; exact .inl ⟨rfl, _, SqL.of ha⟩
    | false =>
      obtain ⟨a, vs, e, ha, -⟩ := o.rp
      rw [e]; exact .inl ⟨rfl, _, SqL.of ha⟩
  | _ => cases h
theorem tMt_of {r : V → List V → Hp → VK → Prop} {g : D → D → (D → Prop) → Prop} (hv : VOp2 X G (fun x y H Q => r x [y] H Q) g) (σ : L2.St) (H : Hp) (Q : VK) (h : liE X W G (c1 + c2) (rMt1 ta tb g) σ H Q) : tBM X.K "list" r (liE X W G c1 ta) (tCons (liE X W G c2 tb) tNil) σ H Q := by
  obtain ⟨n, Z, env, Q', E', p, w, t, q, x⟩ := h
  refine ⟨n, Z, env, _, E', p.left, w, t, fun dx v fx Z1 H1 r1 o1 t1 => ?_, fun y cls da Z1 H1 r xr e1 => x y cls da Z1 H1 r.up xr e1⟩
  refine ⟨ty_lst t1.1 o1, ?_⟩
  refine ⟨n + c1, Z1, env, _, E', p.right r1, w.step p.gd r1.nofp.st, t1.2, fun dy u fy Z2 H2 r2 o2 t2 => ?_, fun y cls da Z2 H2 r xr e1 => x y cls da Z2 H2 (r1.then0 r) xr e1⟩
  exact hv _ Z2 H2 dx v fx dy u fy Q' Q r2.gd (o1.step r1.gd r2.st) o2 (r1.apart o1 r2) t2 fun d v3 fp Z3 H3 s3 g3 o3 q3 => q d v3 fp Z3 H3 ((r1.par r2).op s3 (by rw [← Nat.add_assoc]; exact g3)) o3 q3
theorem je_mtL {name : Str} {id : String} {apos cpos : Pos} {r : V → List V → Hp → VK → Prop} {g : D → D → (D → Prop) → Prop} (hs : Slot "list" name id) (ht : typeOf (Value.builtin id) = pure (Value.type "method_descriptor")) (hm : MtR X id r) (hv : VOp2 X G (fun x y H Q => r x [y] H Q) g) (ho : JE X W G c1 o ta) (he : JE X W G c2 e tb)
    (hb : attributeBase o name X.env (eval o X.env) = eval o X.env := by rfl) (hline : (apos.endLine == cpos.line) = true := by rfl) (hse : starEach [e] X.env = (false, eval e X.env) :: starEach [] X.env := by rfl)
    (hfew : ((backTo cpos (starEach [e] X.env)).all (fun x => !x.1) && (backToKw cpos (keywordEach [] X.env)).all (fun x => x.1.isSome) && decide (([e] : List Expr).length + ([] : List Keyword).length + (if ([] : List Keyword).isEmpty then 0 else 1) < 30)) = true := by rfl) :
    JE X W G (c1 + c2) (.Call (.Attribute o name apos) [e] [] cpos) (rMt1 ta tb g) := peImp (pe_bm PySem.F.plainAttrs_list hs ht hm ho (pa_cons he pa_nil hse) hb hfew hline hse rfl) (tMt_of hv)
/-- flat values -/
def flD : D → Bool
  | .non => true
  | .bl _ => true
  | .int _ => true
  | .str _ => true
  | _ => false
def eqF : D → D → Bool
  | .non, .non => true
  | .bl a, .bl b => a == b
  | .bl a, .int b => (if a = true then 1 else 0) == b
  | .int a, .bl b => a == if b = true then 1 else 0
  | .int a, .int b => a == b
  | .str a, .str b => a == b
  | _, _ => false
/-- xs.index(y) of flat values -/
def gLIx : D → D → (D → Prop) → Prop := fun x y Q => match x with
  | .lst _ ds => flD y = true ∧ ds.all flD = true ∧ ∃ (j : Nat) (z : D), ds[j]? = some z ∧ eqF z y = true ∧ (∀ (m : Nat) (z' : D), m < j → ds[m]? = some z' → eqF z' y = false) ∧ Q (.int (j : Nat))
  | _ => False
def fvD : D → V
  | .bl b => .bl b
  | .int i => .int i
  | .str x => .str x
  | _ => .non
theorem fv_of {K : PySem.W.Frag} {Z : Zs} {H : Hp} {d : D} {v : V} {fp : List Addr} (h : flD d = true) (r : Rp K G Z H d v fp) : v = fvD d := by
  cases d with
  | non => exact r.1
  | bl b => exact r.1
  | int i => exact r.1
  | str x => exact r.1
  | _ => cases h
theorem fvL_of {K : PySem.W.Frag} {Z : Zs} {H : Hp} : ∀ {ds : List D} {vs : List V} {fp : List Addr}, ds.all flD = true → RpL K G Z H ds vs fp → vs = ds.map fvD
  | [], vs, fp, _, r => r.1
  | d :: ds, vs, fp, h, ⟨v, vs', f1, f2, e, r, rs, _⟩ => by
    rw [List.all_cons, Bool.and_eq_true] at h
    rw [e, fv_of h.1 r, fvL_of h.2 rs]
    rfl
theorem fl_fv {d : D} (h : flD d = true) : flatV (fvD d) = true := by
  cases d <;> first | rfl | cases h
theorem eq_fv {x y : D} (hx : flD x = true) (hy : flD y = true) : eqV (fvD x) (fvD y) = eqF x y := by
  cases x <;> first | (cases hx; done) | skip
  all_goals (cases y <;> first | rfl | (cases hy; done))
theorem v_lindex : VOp2 X G (fun x y H Q => rIndex X.K x [y] H Q) gLIx := by
  intro n Z H dx x fx dy y fy Q' Q g0 ox oy _ t q
  unfold gLIx at t
  split at t
  · rename_i ow ds
    obtain ⟨hy, hds, j, z, hj, hz, hb, t⟩ := t
    have hin : ∀ (m : Nat) (z : D), ds[m]? = some z → flD z = true := fun m z h => List.all_eq_true.mp hds z (List.mem_of_getElem? h)
    obtain ⟨a, vs, f, ev, hS, rl⟩ : ∃ a vs f, x = .ref a ∧ SqL X.K H a vs ∧ RpL X.K G Z H ds vs f := by
      cases ow with
      | true =>
        obtain ⟨a, vs, f, e, ha, r, -⟩ := ox.rp
        exact ⟨a, vs, f, e, SqL.of ha, r⟩
      | false =>
        obtain ⟨a, vs, e, ha, -, r, -⟩ := ox.rp
        exact ⟨a, vs, [], e, SqL.of ha, r⟩
    have e1 := fvL_of hds rl
    have e2 := fv_of hy oy.rp
    subst e1 e2
    refine ⟨a, _, _, j, fvD z, ev, rfl, hS, fl_fv hy, ?_, by rw [List.getElem?_map, hj]; rfl, by rw [eq_fv (hin j z hj) hy]; exact hz, fun m z' hm hz' => ?_, vdone (d := .int (j : Nat)) (A := fx ++ fy) g0 q ⟨rfl, rfl⟩ t⟩
    · rw [List.all_map]
      exact List.all_eq_true.mpr fun d hd => fl_fv (List.all_eq_true.mp hds d hd)
    · rw [List.getElem?_map] at hz'
      cases hd : ds[m]? with
      | none => rw [hd] at hz'; cases hz'
      | some d =>
        rw [hd] at hz'
        cases hz'
        rw [eq_fv (hin m d hd) hy]
        exact hb m d hm hd
  · exact t.elim
/-- xs.index(y) -/
theorem je_lindex {apos cpos : Pos} (ho : JE X W G c1 o ta) (he : JE X W G c2 e tb) (hb : attributeBase o "index" X.env (eval o X.env) = eval o X.env := by rfl) (hline : (apos.endLine == cpos.line) = true := by rfl) (hse : starEach [e] X.env = (false, eval e X.env) :: starEach [] X.env := by rfl)
    (hfew : ((backTo cpos (starEach [e] X.env)).all (fun x => !x.1) && (backToKw cpos (keywordEach [] X.env)).all (fun x => x.1.isSome) && decide (([e] : List Expr).length + ([] : List Keyword).length + (if ([] : List Keyword).isEmpty then 0 else 1) < 30)) = true := by rfl) :
    JE X W G (c1 + c2) (.Call (.Attribute o "index" apos) [e] [] cpos) (rMt1 ta tb gLIx) := je_mtL PySem.F.slot_list_index PySem.F.type_list_index mt_index v_lindex ho he hb hline hse hfew
end
end TT

set_option Elab.async false
set_option linter.all false
set_option maxRecDepth 100000
set_option maxHeartbeats 2000000
namespace L2
open PySem PySem.Spec PyProof.Rows
def rCntF (K : PySem.W.Frag) : V → List V → Hp → VK → Prop := fun x xs H Q => ∃ (a : Addr) (ys : List V) (y : V), x = .ref a ∧ xs = [y] ∧ SqL K H a ys ∧ flatV y = true ∧ ys.all flatV = true ∧ Q (.int ((ys.countP (fun z => eqV z y) : Nat) : Int)) H
theorem cnt_of {y : V} : ∀ {ys : List V} {its : List Value}, ys.all flatV = true → Vals ys its → its.countP (eqU y) = ys.countP (fun z => eqV z y)
  | [], [], _, _ => rfl
  | z :: ys, u :: its, h, .cons r rs => by
    rw [List.all_cons, Bool.and_eq_true] at h
    rw [List.countP_cons, List.countP_cons, cnt_of h.2 rs, eqU_of r h.1]
theorem mt_countF {X : Cx} : MtR X "list.count" (rCntF X.K) := by
  intro pins s σ H x xs v us Q I rx rxs h
  obtain ⟨a, ys, y, rfl, rfl, hs, fy, fys, q⟩ := h
  obtain rfl : v = Value.ref a := rx
  match us, rxs with
  | [u], .cons ry .nil =>
    obtain ⟨its, rv, ⟨⟨cls, dd, data, sl⟩, n, ho, hc, hdn, hd⟩, hlen⟩ := Inv.list I hs
    cases hc
    cases hd
    exact call_meets F.slot_list_count ⟨_, ho, rfl⟩ F.entry_list_count (F.args_list_count_2 (.ref a) u) (SeqAt.list_countAt a its.toArray n dd sl u (eqU y))
      ⟨ho, fun u' hu' => mem_eqAt ry fy rv fys u' (by simpa using hu'), .int _, H, I.tok _, ⟨s.toks, by rw [cnt_of fys rv]⟩, q⟩
end L2
namespace TT
open PySem PySem.Spec PyProof.Rows L2
/-- xs.count(y) of flat values -/
def gLCnt : D → D → (D → Prop) → Prop := fun x y Q => match x with
  | .lst _ ds => flD y = true ∧ ds.all flD = true ∧ Q (.int ((ds.countP (fun z => eqF z y) : Nat) : Int))
  | _ => False
section
variable {X : Cx} {W : WX} {G : Bg} {c1 c2 : Nat} {o e : Expr} {ta tb : RE}
theorem cnt_fv {y : D} (hy : flD y = true) : ∀ {ds : List D}, ds.all flD = true → (ds.map fvD).countP (fun z => eqV z (fvD y)) = ds.countP (fun z => eqF z y)
  | [], _ => rfl
  | d :: ds, h => by
    rw [List.all_cons, Bool.and_eq_true] at h
    rw [List.map_cons, List.countP_cons, List.countP_cons, cnt_fv hy h.2, eq_fv h.1 hy]
theorem v_lcount : VOp2 X G (fun x y H Q => rCntF X.K x [y] H Q) gLCnt := by
  intro n Z H dx x fx dy y fy Q' Q g0 ox oy _ t q
  unfold gLCnt at t
  split at t
  · rename_i ow ds
    obtain ⟨hy, hds, t⟩ := t
    obtain ⟨a, vs, f, ev, hS, rl⟩ : ∃ a vs f, x = .ref a ∧ SqL X.K H a vs ∧ RpL X.K G Z H ds vs f := by
      cases ow with
      | true =>
        obtain ⟨a, vs, f, e, ha, r, -⟩ := ox.rp
        exact ⟨a, vs, f, e, SqL.of ha, r⟩
      | false =>
        obtain ⟨a, vs, e, ha, -, r, -⟩ := ox.rp
        exact ⟨a, vs, [], e, SqL.of ha, r⟩
    have e1 := fvL_of hds rl
    have e2 := fv_of hy oy.rp
    subst e1 e2
    refine ⟨a, _, _, ev, rfl, hS, fl_fv hy, ?_, ?_⟩
    · rw [List.all_map]
      exact List.all_eq_true.mpr fun d hd => fl_fv (List.all_eq_true.mp hds d hd)
    · rw [cnt_fv hy hds]
      exact vdone (d := .int _) (A := fx ++ fy) g0 q ⟨rfl, rfl⟩ t
  · exact t.elim
/-- xs.count(y) -/
theorem je_lcount {apos cpos : Pos} (ho : JE X W G c1 o ta) (he : JE X W G c2 e tb) (hb : attributeBase o "count" X.env (eval o X.env) = eval o X.env := by rfl) (hline : (apos.endLine == cpos.line) = true := by rfl) (hse : starEach [e] X.env = (false, eval e X.env) :: starEach [] X.env := by rfl)
    (hfew : ((backTo cpos (starEach [e] X.env)).all (fun x => !x.1) && (backToKw cpos (keywordEach [] X.env)).all (fun x => x.1.isSome) && decide (([e] : List Expr).length + ([] : List Keyword).length + (if ([] : List Keyword).isEmpty then 0 else 1) < 30)) = true := by rfl) :
    JE X W G (c1 + c2) (.Call (.Attribute o "count" apos) [e] [] cpos) (rMt1 ta tb gLCnt) := je_mtL PySem.F.slot_list_count PySem.F.type_list_count mt_countF v_lcount ho he hb hline hse hfew
end
end TT

set_option Elab.async false
set_option linter.all false
set_option maxRecDepth 100000
set_option maxHeartbeats 2000000
namespace TT
open PySem PySem.Spec PyProof.Rows L2
/-! ### texts: methods, str(int), int(text), f-strings, a module's number -/
def isS : D → Bool
  | .str _ => true
  | _ => false
def rMs0 (ta : RE) (g : D → (D → Prop) → Prop) : RE := fun env Q E => ta env (fun x => isS x = true ∧ g x Q) E
def rMs1 (ta tb : RE) (g : D → D → (D → Prop) → Prop) : RE := fun env Q E => ta env (fun x => isS x = true ∧ tb env (fun y => g x y Q) E) E
theorem rpL_strs {K : PySem.W.Frag} {G : Bg} {Z : Zs} {H : Hp} : ∀ ys : List Str, RpL K G Z H (ys.map D.str) (ys.map V.str) []
  | [] => ⟨rfl, rfl⟩
  | y :: ys => ⟨.str y, _, [], [], rfl, ⟨rfl, rfl⟩, rpL_strs ys, rfl⟩
theorem strs_rpL {K : PySem.W.Frag} {G : Bg} {Z : Zs} {H : Hp} : ∀ {ys : List Str} {vs : List V} {fp : List Addr}, RpL K G Z H (ys.map D.str) vs fp → vs = ys.map V.str
  | [], vs, fp, h => h.1
  | y :: ys, vs, fp, ⟨v, vs', f1, f2, e, r, rs, ef⟩ => by
    have e1 : v = .str y := r.1
    rw [e, e1, strs_rpL rs]; rfl
section
variable {X : Cx} {W : WX} {G : Bg} {c c1 c2 c3 : Nat} {o e a b : Expr} {ta tb tc : RE}
theorem ty_str {Z : Zs} {H : Hp} {d : D} {v : V} {fp : List Addr} (h : isS d = true) (o : Ob X.K G Z H d v fp) : tyV X.K "str" v H := by
  cases d with
  | str z =>
    have e : v = .str z := o.rp.1
    rw [e]; rfl
  | _ => cases h
theorem tMs_of {r : V → List V → Hp → VK → Prop} {g : D → D → (D → Prop) → Prop} (hv : VOp2 X G (fun x y H Q => r x [y] H Q) g) (σ : L2.St) (H : Hp) (Q : VK) (h : liE X W G (c1 + c2) (rMs1 ta tb g) σ H Q) : tBM X.K "str" r (liE X W G c1 ta) (tCons (liE X W G c2 tb) tNil) σ H Q := by
  obtain ⟨n, Z, env, Q', E', p, w, t, q, x⟩ := h
  refine ⟨n, Z, env, _, E', p.left, w, t, fun dx v fx Z1 H1 r1 o1 t1 => ?_, fun y cls da Z1 H1 r xr e1 => x y cls da Z1 H1 r.up xr e1⟩
  refine ⟨ty_str t1.1 o1, ?_⟩
  refine ⟨n + c1, Z1, env, _, E', p.right r1, w.step p.gd r1.nofp.st, t1.2, fun dy u fy Z2 H2 r2 o2 t2 => ?_, fun y cls da Z2 H2 r xr e1 => x y cls da Z2 H2 (r1.then0 r) xr e1⟩
  exact hv _ Z2 H2 dx v fx dy u fy Q' Q r2.gd (o1.step r1.gd r2.st) o2 (r1.apart o1 r2) t2 fun d v3 fp Z3 H3 s3 g3 o3 q3 => q d v3 fp Z3 H3 ((r1.par r2).op s3 (by rw [← Nat.add_assoc]; exact g3)) o3 q3
theorem tMs0_of {r : V → List V → Hp → VK → Prop} {g : D → (D → Prop) → Prop} (hv : VOp1 X G (fun x H Q => r x [] H Q) g) (σ : L2.St) (H : Hp) (Q : VK) (h : liE X W G c (rMs0 ta g) σ H Q) : tBM0 X.K "str" r (liE X W G c ta) σ H Q := by
  obtain ⟨n, Z, env, Q', E', p, w, t, q, x⟩ := h
  refine ⟨n, Z, env, _, E', p, w, t, fun dx v fx Z1 H1 r1 o1 t1 => ?_, x⟩
  refine ⟨ty_str t1.1 o1, ?_⟩
  exact hv _ Z1 H1 dx v fx Q' Q r1.gd o1 t1.2 fun d v3 fp Z3 H3 s3 g3 o3 q3 => q d v3 fp Z3 H3 (r1.op s3 g3) o3 q3
theorem je_ms1 {name : Str} {id : String} {apos cpos : Pos} {r : V → List V → Hp → VK → Prop} {g : D → D → (D → Prop) → Prop} (hs : Slot "str" name id) (ht : typeOf (Value.builtin id) = pure (Value.type "method_descriptor")) (hm : MtR X id r) (hv : VOp2 X G (fun x y H Q => r x [y] H Q) g) (ho : JE X W G c1 o ta) (he : JE X W G c2 e tb)
    (hb : attributeBase o name X.env (eval o X.env) = eval o X.env := by rfl) (hline : (apos.endLine == cpos.line) = true := by rfl) (hse : starEach [e] X.env = (false, eval e X.env) :: starEach [] X.env := by rfl)
    (hfew : ((backTo cpos (starEach [e] X.env)).all (fun x => !x.1) && (backToKw cpos (keywordEach [] X.env)).all (fun x => x.1.isSome) && decide (([e] : List Expr).length + ([] : List Keyword).length + (if ([] : List Keyword).isEmpty then 0 else 1) < 30)) = true := by rfl) :
    JE X W G (c1 + c2) (.Call (.Attribute o name apos) [e] [] cpos) (rMs1 ta tb g) := peImp (pe_bm PySem.F.plainAttrs_str hs ht hm ho (pa_cons he pa_nil hse) hb hfew hline hse rfl) (tMs_of hv)
theorem je_ms0 {name : Str} {id : String} {apos cpos : Pos} {r : V → List V → Hp → VK → Prop} {g : D → (D → Prop) → Prop} (hs : Slot "str" name id) (ht : typeOf (Value.builtin id) = pure (Value.type "method_descriptor")) (hm : MtR X id r) (hv : VOp1 X G (fun x H Q => r x [] H Q) g) (ho : JE X W G c o ta)
    (hb : attributeBase o name X.env (eval o X.env) = eval o X.env := by rfl) (hline : (apos.endLine == cpos.line) = true := by rfl) :
    JE X W G c (.Call (.Attribute o name apos) [] [] cpos) (rMs0 ta g) := peImp (pe_bm0 PySem.F.plainAttrs_str hs ht hm ho hb hline) (tMs0_of hv)
/-! the methods -/
def gAscii : D → (D → Prop) → Prop := fun x Q => match x with
  | .str z => Q (.bl (Txt.isascii z))
  | _ => False
def gDigit : D → (D → Prop) → Prop := fun x Q => match x with
  | .str z => Q (.bl (Txt.isdigit z))
  | _ => False
theorem v_ascii : VOp1 X G (fun x H Q => (fun (x : V) (xs : List V) (H : Hp) (Q : VK) => ∃ a, x = .str a ∧ xs = [] ∧ True ∧ Q (.bl (Txt.isascii a)) H) x [] H Q) gAscii := by
  intro n Z H dx x fx Q' Q g ox t q
  unfold gAscii at t
  split at t
  · rename_i z
    exact ⟨z, ox.rp.1, rfl, trivial, vdone (d := .bl (Txt.isascii z)) g q ⟨rfl, rfl⟩ t⟩
  · exact t.elim
theorem v_digit : VOp1 X G (fun x H Q => (fun (x : V) (xs : List V) (H : Hp) (Q : VK) => ∃ a, x = .str a ∧ xs = [] ∧ True ∧ Q (.bl (Txt.isdigit a)) H) x [] H Q) gDigit := by
  intro n Z H dx x fx Q' Q g ox t q
  unfold gDigit at t
  split at t
  · rename_i z
    exact ⟨z, ox.rp.1, rfl, trivial, vdone (d := .bl (Txt.isdigit z)) g q ⟨rfl, rfl⟩ t⟩
  · exact t.elim
def gSplit : D → D → (D → Prop) → Prop := fun x y Q => match x, y with
  | .str z, .str w => (w.length == 0) = false ∧ z.length + 2 ≤ sizeLine ∧ Q (.lst true ((Txt.split z w).map D.str))
  | _, _ => False
theorem v_split : VOp2 X G (fun x y H Q => (fun (x : V) (xs : List V) (H : Hp) (Q : VK) => ∃ a b, x = .str a ∧ xs = [.str b] ∧ (b.length == 0) = false ∧ a.length + 2 ≤ sizeLine ∧ rNewStrs (Txt.split a b) H Q) x [y] H Q) gSplit := by
  intro n Z H dx x fx dy y fy Q' Q g ox oy ap t q
  unfold gSplit at t
  split at t
  · rename_i z w
    have e1 : x = .str z := ox.rp.1
    have e2 : y = .str w := oy.rp.1
    refine ⟨z, w, e1, by rw [e2], t.1, t.2.1, fun p hp => ?_⟩
    have l : ObL X.K G Z H ((Txt.split z w).map D.str) ((Txt.split z w).map V.str) [] := ⟨rpL_strs _, List.nodup_nil, (fun _ m => nomatch m), (fun _ m => nomatch m)⟩
    exact q _ _ [p] Z _ (Stp.new hp fun a m => .inr (List.mem_singleton.mp m)) (g.new hp) (ob_lst g l hp) t.2.2
  · exact t.elim
def gPart : D → D → (D → Prop) → Prop := fun x y Q => match x, y with
  | .str z, .str w => (w.length == 0) = false ∧ z.length ≤ sizeLine ∧ Q (.tup [.str (Txt.partition z w).1, .str (Txt.partition z w).2.1, .str (Txt.partition z w).2.2])
  | _, _ => False
theorem v_part : VOp2 X G (fun x y H Q => (fun (x : V) (xs : List V) (H : Hp) (Q : VK) => ∃ a b, x = .str a ∧ xs = [.str b] ∧ (b.length == 0) = false ∧ a.length ≤ sizeLine ∧
    ∀ p, H p = none → Q (.ref p) (upd H p (.tup [.str (Txt.partition a b).1, .str (Txt.partition a b).2.1, .str (Txt.partition a b).2.2]))) x [y] H Q) gPart := by
  intro n Z H dx x fx dy y fy Q' Q g ox oy ap t q
  unfold gPart at t
  split at t
  · rename_i z w
    have e1 : x = .str z := ox.rp.1
    have e2 : y = .str w := oy.rp.1
    refine ⟨z, w, e1, by rw [e2], t.1, t.2.1, fun p hp => ?_⟩
    have l : ObL X.K G Z H ([(Txt.partition z w).1, (Txt.partition z w).2.1, (Txt.partition z w).2.2].map D.str) ([(Txt.partition z w).1, (Txt.partition z w).2.1, (Txt.partition z w).2.2].map V.str) [] := ⟨rpL_strs _, List.nodup_nil, (fun _ m => nomatch m), (fun _ m => nomatch m)⟩
    exact q _ _ [] Z _ (Stp.new hp fun a m => nomatch m) (g.new hp) (ob_tup (n := n) l hp) t.2.2
  · exact t.elim
def gJoin : D → D → (D → Prop) → Prop := fun x y Q => match x, y with
  | .str z, .lst _ ds => ∃ ys : List Str, ds = ys.map D.str ∧ (ys.map (·.length)).sum + ys.length * z.length ≤ 16777216 ∧ Q (.str (Txt.join z ys))
  | _, _ => False
theorem v_join : VOp2 X G (fun x y H Q => (fun (x : V) (xs : List V) (H : Hp) (Q : VK) => ∃ a p, ∃ ys : List Str, x = .str a ∧ xs = [.ref p] ∧ (SqL X.K H p (ys.map V.str) ∨ SqT X.K H p (ys.map V.str)) ∧
    (ys.map (·.length)).sum + ys.length * a.length ≤ 16777216 ∧ Q (.str (Txt.join a ys)) H) x [y] H Q) gJoin := by
  intro n Z H dx x fx dy y fy Q' Q g ox oy ap t q
  unfold gJoin at t
  split at t
  · rename_i z ow ds
    obtain ⟨ys, e, hz, t⟩ := t
    subst e
    have e1 : x = .str z := ox.rp.1
    obtain ⟨p, vs, f, ev, hp, l1, s1, _⟩ := oy.lstOpen
    have e3 := strs_rpL l1.rp
    subst e3
    exact ⟨z, p, ys, e1, by rw [ev], .inl (SqL.of hp), hz, vdone (d := .str (Txt.join z ys)) g q ⟨rfl, rfl⟩ t⟩
  · exact t.elim
section
variable {apos cpos : Pos}
theorem je_ascii (ho : JE X W G c o ta) (hb : attributeBase o "isascii" X.env (eval o X.env) = eval o X.env := by rfl) (hline : (apos.endLine == cpos.line) = true := by rfl) : JE X W G c (.Call (.Attribute o "isascii" apos) [] [] cpos) (rMs0 ta gAscii) := je_ms0 PySem.F.slot_str_isascii PySem.F.type_str_isascii mt_isascii v_ascii ho hb hline
theorem je_digit (ho : JE X W G c o ta) (hb : attributeBase o "isdigit" X.env (eval o X.env) = eval o X.env := by rfl) (hline : (apos.endLine == cpos.line) = true := by rfl) : JE X W G c (.Call (.Attribute o "isdigit" apos) [] [] cpos) (rMs0 ta gDigit) := je_ms0 PySem.F.slot_str_isdigit PySem.F.type_str_isdigit mt_isdigit v_digit ho hb hline
theorem je_split (ho : JE X W G c1 o ta) (he : JE X W G c2 e tb) (hb : attributeBase o "split" X.env (eval o X.env) = eval o X.env := by rfl) (hline : (apos.endLine == cpos.line) = true := by rfl) (hse : starEach [e] X.env = (false, eval e X.env) :: starEach [] X.env := by rfl)
    (hfew : ((backTo cpos (starEach [e] X.env)).all (fun x => !x.1) && (backToKw cpos (keywordEach [] X.env)).all (fun x => x.1.isSome) && decide (([e] : List Expr).length + ([] : List Keyword).length + (if ([] : List Keyword).isEmpty then 0 else 1) < 30)) = true := by rfl) :
    JE X W G (c1 + c2) (.Call (.Attribute o "split" apos) [e] [] cpos) (rMs1 ta tb gSplit) := je_ms1 PySem.F.slot_str_split PySem.F.type_str_split mt_split v_split ho he hb hline hse hfew
theorem je_part (ho : JE X W G c1 o ta) (he : JE X W G c2 e tb) (hb : attributeBase o "partition" X.env (eval o X.env) = eval o X.env := by rfl) (hline : (apos.endLine == cpos.line) = true := by rfl) (hse : starEach [e] X.env = (false, eval e X.env) :: starEach [] X.env := by rfl)
    (hfew : ((backTo cpos (starEach [e] X.env)).all (fun x => !x.1) && (backToKw cpos (keywordEach [] X.env)).all (fun x => x.1.isSome) && decide (([e] : List Expr).length + ([] : List Keyword).length + (if ([] : List Keyword).isEmpty then 0 else 1) < 30)) = true := by rfl) :
    JE X W G (c1 + c2) (.Call (.Attribute o "partition" apos) [e] [] cpos) (rMs1 ta tb gPart) := je_ms1 PySem.F.slot_str_partition PySem.F.type_str_partition mt_partition v_part ho he hb hline hse hfew
theorem je_join (ho : JE X W G c1 o ta) (he : JE X W G c2 e tb) (hb : attributeBase o "join" X.env (eval o X.env) = eval o X.env := by rfl) (hline : (apos.endLine == cpos.line) = true := by rfl) (hse : starEach [e] X.env = (false, eval e X.env) :: starEach [] X.env := by rfl)
    (hfew : ((backTo cpos (starEach [e] X.env)).all (fun x => !x.1) && (backToKw cpos (keywordEach [] X.env)).all (fun x => x.1.isSome) && decide (([e] : List Expr).length + ([] : List Keyword).length + (if ([] : List Keyword).isEmpty then 0 else 1) < 30)) = true := by rfl) :
    JE X W G (c1 + c2) (.Call (.Attribute o "join" apos) [e] [] cpos) (rMs1 ta tb gJoin) := je_ms1 PySem.F.slot_str_join PySem.F.type_str_join mt_join v_join ho he hb hline hse hfew
end
/-! str(i), int(x) -/
def gStrI : List D → (D → Prop) → Prop := fun ds Q => match ds with
  | [.int i] => i.natAbs.log2 < 1920 ∧ Q (.str (toString i))
  | _ => False
theorem v_strI : VOpL X G (fun xs H Q => ∃ i, xs = [.int i] ∧ i.natAbs.log2 < 1920 ∧ Q (.str (toString i)) H) gStrI := by
  intro n Z H ds xs fx Q' Q g0 o t q
  unfold gStrI at t
  split at t
  · rename_i i
    exact ⟨i, rpL1 o.rp, t.1, vdone (d := .str (toString i)) g0 q ⟨rfl, rfl⟩ t.2⟩
  · exact t.elim
def gIntS : List D → (D → Prop) → Prop := fun ds Q => match ds with
  | [.int i] => Q (.int i)
  | [.bl k] => Q (.int (if k then 1 else 0))
  | [.str z] => ∃ m : Int, PySem.intText? z = some m ∧ z.length ≤ 640 ∧ Q (.int m)
  | _ => False
theorem v_intS : VOpL X G (fun xs H Q => ((∃ i, xs = [.int i] ∧ Q (.int i) H) ∨ ∃ k, xs = [.bl k] ∧ Q (.int (if k then 1 else 0)) H) ∨ ∃ a n, xs = [.str a] ∧ PySem.intText? a = some n ∧ a.length ≤ 640 ∧ Q (.int n) H) gIntS := by
  intro n Z H ds xs fx Q' Q g0 o t q
  unfold gIntS at t
  split at t
  · rename_i i
    exact .inl (.inl ⟨i, rpL1 o.rp, vdone (d := .int i) g0 q ⟨rfl, rfl⟩ t⟩)
  · rename_i k
    obtain ⟨v, e, o1⟩ := obL1 o
    have e1 : v = .bl k := o1.rp.1
    exact .inl (.inr ⟨k, by rw [e, e1], vdone (d := .int (if k then 1 else 0)) g0 q ⟨rfl, rfl⟩ t⟩)
  · rename_i z
    obtain ⟨v, e, o1⟩ := obL1 o
    have e1 : v = .str z := o1.rp.1
    obtain ⟨m, h1, h2, t⟩ := t
    exact .inr ⟨z, m, by rw [e, e1], h1, h2, vdone (d := .int m) g0 q ⟨rfl, rfl⟩ t⟩
  · exact t.elim
theorem call_intS : CallR X (.type "int") (fun xs H Q => ((∃ i, xs = [.int i] ∧ Q (.int i) H) ∨ ∃ k, xs = [.bl k] ∧ Q (.int (if k then 1 else 0)) H) ∨ ∃ a n, xs = [.str a] ∧ PySem.intText? a = some n ∧ a.length ≤ 640 ∧ Q (.int n) H) := call_int1.or call_int_str
/-! f-strings -/
def gFmt : D → (D → Prop) → Prop := fun x Q => match x with
  | .str y => y.length ≤ sizeLine ∧ Q (.str y)
  | .int i => i.natAbs.log2 < 1920 ∧ Q (.str (toString i))
  | _ => False
theorem je_fmt {pos : Pos} (he : JE X W G c e ta) : JE X W G c (.FormattedValue e (-1) none pos) (r1 ta gFmt) := by
  refine peImp (pe_fmt he) fun σ H Q h => ?_
  obtain ⟨n, Z, env, Q', E', p, w, t, q, x⟩ := h
  refine ⟨n, Z, env, _, E', p, w, t, fun dx v fx Z1 H1 r1 o1 t1 => ?_, x⟩
  unfold gFmt at t1
  split at t1
  · rename_i y
    have e1 : v = .str y := o1.rp.1
    exact .inl ⟨y, e1, t1.1, q (.str y) (.str y) [] Z1 H1 r1.nofp (Ob.flat ⟨rfl, rfl⟩) t1.2⟩
  · rename_i i
    have e1 : v = .int i := o1.rp.1
    exact .inr ⟨i, e1, t1.1, q (.str (toString i)) (.str (toString i)) [] Z1 H1 r1.nofp (Ob.flat ⟨rfl, rfl⟩) t1.2⟩
  · exact t1.elim
theorem je_fs1 {pos : Pos} (he : JE X W G c e ta) : JE X W G c (.JoinedStr [e] pos) ta := peImp (pe_joined1 he) fun σ H Q h => h
def gS (P : Str → Prop) : D → Prop := fun x => match x with
  | .str y => P y
  | _ => False
theorem gS_v {Z : Zs} {H : Hp} {d : D} {v : V} {fp : List Addr} {P : Str → Prop} (o : Ob X.K G Z H d v fp) (t : gS P d) : ∃ y, v = .str y ∧ P y := by
  unfold gS at t
  split at t
  · rename_i y
    exact ⟨y, o.rp.1, t⟩
  · exact t.elim
def rFs3 (ta tb tc : RE) : RE := fun env Q E => ta env (gS fun x => (Str.empty ++ x).length ≤ sizeLine ∧ tb env (gS fun y => (Str.empty ++ x ++ y).length ≤ sizeLine ∧ tc env (gS fun z => (Str.empty ++ x ++ y ++ z).length ≤ sizeLine ∧ Q (.str (Str.empty ++ x ++ y ++ z))) E) E) E
theorem je_fs3 {e1 e2 e3 : Expr} {pos : Pos} (h1 : JE X W G c1 e1 ta) (h2 : JE X W G c2 e2 tb) (h3 : JE X W G c3 e3 tc) : JE X W G (c1 + (c2 + c3)) (.JoinedStr [e1, e2, e3] pos) (rFs3 ta tb tc) := by
  refine peImp (pe_joined (.cons h1 (.cons h2 (.cons h3 .nil)))) fun σ H Q h => ?_
  obtain ⟨n, Z, env, Q', E', p, w, t, q, x⟩ := h
  refine ⟨n, Z, env, _, E', p.left, w, t, fun dx v fx Z1 H1 r1 o1 t1 => ?_, fun y cls da Z1 H1 r xr e1 => x y cls da Z1 H1 r.up xr e1⟩
  obtain ⟨s1, ev1, l1, t1⟩ := gS_v o1 t1
  refine ⟨s1, ev1, l1, ?_⟩
  have p2 := p.right r1
  refine ⟨n + c1, Z1, env, _, E', p2.left, w.step p.gd r1.nofp.st, t1, fun dy u fy Z2 H2 r2 o2 t2 => ?_, fun y cls da Z2 H2 r xr e1 => x y cls da Z2 H2 (r1.then0 r.up) xr e1⟩
  obtain ⟨s2, ev2, l2, t2⟩ := gS_v o2 t2
  refine ⟨s2, ev2, l2, ?_⟩
  refine ⟨n + c1 + c2, Z2, env, _, E', p2.right r2, (w.step p.gd r1.nofp.st).step r1.gd r2.nofp.st, t2, fun dz u3 fz Z3 H3 r3 o3 t3 => ?_, fun y cls da Z3 H3 r xr e1 => x y cls da Z3 H3 (r1.then0 (r2.then0 r)) xr e1⟩
  obtain ⟨s3, ev3, l3, t3⟩ := gS_v o3 t3
  refine ⟨s3, ev3, l3, ?_⟩
  exact q (.str _) (.str _) [] Z3 H3 ((r1.par (r2.par r3)).nofp) (Ob.flat ⟨rfl, rfl⟩) t3
/-- a module's number -/
theorem je_gint {x : Str} {i : Int} {p : Pos} (hg : Gl X x) (hm : ∃ t, X.mg x = some (.int i t)) (hdb : (x == ("__debug__" : Str)) = false := by decide) : JE X W G 0 (.Name x p) (fun _ Q _ => Q (.int i)) := by
  obtain ⟨t, hm⟩ := hm
  exact je_tc (v := .int i) (pe_glob hg hm ⟨_, rfl⟩ hdb) fun _ _ => ⟨rfl, rfl⟩
end
end TT

set_option Elab.async false
set_option linter.all false
set_option maxRecDepth 100000
set_option maxHeartbeats 2000000
namespace TT
open PySem PySem.Spec PyProof.Rows L2
/-! ### a bag of three numbers made in a loop's body -/
mutual
/-- no bag within -/
def nobag : D → Bool
  | .bag => false
  | .tup ds => nobagL ds
  | .lst _ ds => nobagL ds
  | .dct _ _ ds => nobagL ds
  | .dcT _ _ ds => nobagL ds
  | .exc _ _ d => nobag d
  | .err _ d => nobag d
  | _ => true
def nobagL : List D → Bool
  | [] => true
  | d :: ds => nobag d && nobagL ds
end
section
variable {K : PySem.W.Frag} {G G' : Bg} {Z : Zs} {H : Hp}
mutual
theorem Rp.other : ∀ (d : D) (v : V) (fp : List Addr), nobag d = true → Rp K G Z H d v fp → Rp K G' Z H d v fp
  | .non, v, fp, n, h => h
  | .bl b, v, fp, n, h => h
  | .int i, v, fp, n, h => h
  | .str x, v, fp, n, h => h
  | .bag, v, fp, n, h => by cases n
  | .scr ns, v, fp, n, h => h
  | .exc a dd d, v, fp, n, ⟨e, ef, u, h, r⟩ => ⟨e, ef, u, h, Rp.other d u [] n r⟩
  | .err cx d, v, fp, n, ⟨a, C, dd, u, e, c, s, z, h, r, ef⟩ => ⟨a, C, dd, u, e, c, s, z, h, Rp.other d u [] n r, ef⟩
  | .tup ds, v, fp, n, ⟨a, vs, e, s, r⟩ => ⟨a, vs, e, s, RpL.other ds vs fp n r⟩
  | .lst true ds, v, fp, n, ⟨a, vs, fp', e, s, r, ef⟩ => ⟨a, vs, fp', e, s, RpL.other ds vs fp' n r, ef⟩
  | .lst false ds, v, fp, n, ⟨a, vs, e, s, z, r, ef⟩ => ⟨a, vs, e, s, z, RpL.other ds vs [] n r, ef⟩
  | .dct true ks ds, v, fp, n, ⟨a, vs, fp', e, s, l, r, ef⟩ => ⟨a, vs, fp', e, s, l, RpL.other ds vs fp' n r, ef⟩
  | .dct false ks ds, v, fp, n, ⟨a, vs, e, s, l, z, r, ef⟩ => ⟨a, vs, e, s, l, z, RpL.other ds vs [] n r, ef⟩
  | .dcT true ks ds, v, fp, n, ⟨a, vs, fp', e, s, l, r, ef⟩ => ⟨a, vs, fp', e, s, l, RpL.other ds vs fp' n r, ef⟩
  | .dcT false ks ds, v, fp, n, ⟨a, vs, e, s, l, z, r, ef⟩ => ⟨a, vs, e, s, l, z, RpL.other ds vs [] n r, ef⟩
theorem RpL.other : ∀ (ds : List D) (vs : List V) (fp : List Addr), nobagL ds = true → RpL K G Z H ds vs fp → RpL K G' Z H ds vs fp
  | [], vs, fp, n, h => h
  | d :: ds, vs, fp, n, ⟨v, vs', f1, f2, e, r, rs, ef⟩ => by
    have n : (nobag d && nobagL ds) = true := n
    rw [Bool.and_eq_true] at n
    exact ⟨v, vs', f1, f2, e, Rp.other d v f1 n.1 r, RpL.other ds vs' f2 n.2 rs, ef⟩
end
mutual
/-- where there is no bag, nothing holds one -/
theorem Rp.none_nobag : ∀ (d : D) (v : V) (fp : List Addr), Rp K none Z H d v fp → nobag d = true
  | .non, v, fp, h => rfl
  | .bl b, v, fp, h => rfl
  | .int i, v, fp, h => rfl
  | .str x, v, fp, h => rfl
  | .bag, v, fp, ⟨⟨_, _, _, e, _⟩, _⟩ => by cases e
  | .scr ns, v, fp, h => rfl
  | .exc a dd d, v, fp, ⟨e, ef, u, h, r⟩ => Rp.none_nobag d u [] r
  | .err cx d, v, fp, ⟨a, C, dd, u, e, c, s, z, h, r, ef⟩ => Rp.none_nobag d u [] r
  | .tup ds, v, fp, ⟨a, vs, e, s, r⟩ => RpL.none_nobag ds vs fp r
  | .lst true ds, v, fp, ⟨a, vs, fp', e, s, r, ef⟩ => RpL.none_nobag ds vs fp' r
  | .lst false ds, v, fp, ⟨a, vs, e, s, z, r, ef⟩ => RpL.none_nobag ds vs [] r
  | .dct true ks ds, v, fp, ⟨a, vs, fp', e, s, l, r, ef⟩ => RpL.none_nobag ds vs fp' r
  | .dct false ks ds, v, fp, ⟨a, vs, e, s, l, z, r, ef⟩ => RpL.none_nobag ds vs [] r
  | .dcT true ks ds, v, fp, ⟨a, vs, fp', e, s, l, r, ef⟩ => RpL.none_nobag ds vs fp' r
  | .dcT false ks ds, v, fp, ⟨a, vs, e, s, l, z, r, ef⟩ => RpL.none_nobag ds vs [] r
theorem RpL.none_nobag : ∀ (ds : List D) (vs : List V) (fp : List Addr), RpL K none Z H ds vs fp → nobagL ds = true
  | [], vs, fp, h => rfl
  | d :: ds, vs, fp, ⟨v, vs', f1, f2, e, r, rs, ef⟩ => by
    show (nobag d && nobagL ds) = true
    rw [Rp.none_nobag d v f1 r, RpL.none_nobag ds vs' f2 rs]; rfl
end
end
/-- what holds no bag -/
def dropB (env : Ev) : Ev := env.map fun o => match o with
  | some d => if nobag d = true then some d else none
  | none => none
theorem dropB_at {env : Ev} {j : Nat} {d : D} (h : (dropB env)[j]? = some (some d)) : env[j]? = some (some d) ∧ nobag d = true := by
  unfold dropB at h
  rw [List.getElem?_map] at h
  cases e : env[j]? with
  | none => rw [e] at h; cases h
  | some o =>
    rw [e] at h
    cases o with
    | none => cases h
    | some d' =>
      have h : some (if nobag d' = true then some d' else none) = some (some d) := h
      by_cases q : nobag d' = true
      · rw [if_pos q] at h
        cases h
        exact ⟨rfl, q⟩
      · rw [if_neg q] at h
        cases h
theorem dropB_len (env : Ev) : (dropB env).length = env.length := List.length_map ..
/-- from a world with the bag b, made new, to the world without -/
theorem Send.unbag {K : PySem.W.Frag} {n c : Nat} {Z Z2 : Zs} {H H1 H2 : Hp} {env2 : Ev} {σ2 : L2.St} {F F1 F2 : List (List Addr)} {b : Addr} (sm : ∀ a o, H a = some o → H1 a = some o) (hb : H b = none) (hF : ∀ a ∈ F1.flatten, a ∈ F.flatten)
    (s : Send K (some (.three, b, b)) 0 c Z H1 F1.flatten Z2 env2 σ2 H2 F2) : Send K none n c Z H F.flatten Z2 (dropB env2) σ2 H2 F2 := by
  have fr : ∀ a, H1 a = none → H a = none := fun a h => by
    cases e : H a with
    | none => rfl
    | some o => rw [sm a o e] at h; cases h
  have nb : ∀ a o, H a = some o → ¬ inB (some (BK.three, b, b)) a := fun a o h i => by
    have e : a = b := i.elim id id
    rw [e, hb] at h; cases h
  refine ⟨⟨fun a o h _ m => s.st.keep a o (sm a o h) (nb a o h) fun z => m (hF a z), fun a o h => s.st.there a o (sm a o h), s.st.zz, fun a z => ?_, fun a m => ?_⟩, ⟨⟨trivial, fun _ _ i => i.elim, s.stt.gd.tr⟩, by rw [dropB_len]; exact s.stt.len, by rw [dropB_len]; exact s.stt.lenF, fun j d h => ?_, s.stt.nd, s.stt.nz, fun _ _ i => i.elim, s.stt.mt⟩⟩
  · rcases s.st.zn a z with z | z | z
    · exact .inl z
    · exact .inr (.inl (hF a z))
    · exact .inr (.inr (fr a z))
  · rcases s.st.fn a m with z | z
    · exact .inl (hF a z)
    · exact .inr (fr a z)
  · obtain ⟨h1, h2⟩ := dropB_at h
    obtain ⟨v, fp, e1, e2, r⟩ := s.stt.at_ j d h1
    exact ⟨v, fp, e1, e2, Rp.other d v fp h2 r⟩
theorem Stt.inbag {K : PySem.W.Frag} {n : Nat} {Z : Zs} {H H1 : Hp} {env : Ev} {σ : L2.St} {F : List (List Addr)} {b : Addr} (sm : ∀ a o, H a = some o → H1 a = some o) (hb : H b = none) (bo : BagOk (some (.three, b, b)) 0 H1) (s : Stt K none n Z H env σ F) (i : Nat) :
    Stt K (some (.three, b, b)) 0 Z H1 (env.set i (some .bag)) (σ.set i (some (.ref b))) (F.set i []) := by
  have nb : ∀ a o, H a = some o → ¬ inB (some (BK.three, b, b)) a := fun a o h i => by
    have e : a = b := i.elim id id
    rw [e, hb] at h; cases h
  have s1 : Stt K (some (.three, b, b)) 0 Z H1 env σ F := by
    refine ⟨⟨bo, fun a z => let ⟨o, e⟩ := s.gd.tr a z; nb a o e, fun a z => let ⟨o, e⟩ := s.gd.tr a z; ⟨o, sm a o e⟩⟩, s.len, s.lenF, fun j d h => ?_, s.nd, s.nz, fun a m => ?_, fun a m => ?_⟩
    · obtain ⟨v, fp, e1, e2, r⟩ := s.at_ j d h
      exact ⟨v, fp, e1, e2, Rp.keep (fun _ z => z) d v fp (fun a o h _ => sm a o h) (Rp.other d v fp (Rp.none_nobag d v fp r) r)⟩
    · obtain ⟨o, e⟩ := s.trk a m
      exact nb a o e
    · obtain ⟨o, e⟩ := s.trk a m
      have := s.mt a m
      rw [sm a o e]
      rw [e] at this
      exact this
  have o : Ob K (some (.three, b, b)) Z H1 .bag (.ref b) [] := Ob.flat ⟨⟨_, _, _, rfl, rfl⟩, rfl⟩
  exact s1.store o (fun _ m => nomatch m) i
/-- a new bag of three numbers, made of the script and a number -/
def spPool (K : PySem.W.Frag) : Sp := fun vs H Q _ => ∃ (a : Addr) (ns : List Int) (k : Int), vs = [.ref a, .int k] ∧ ScrAt K H a (ns.map V.int) ∧ ns.length ≤ 63 ∧ 0 ≤ k ∧ k < 2 ^ 20 ∧
  ∀ H' b, Same H H' → H b = none → BagOk (some (.three, b, b)) 0 H' → Q (.ref b) H'
def rPool (i i0 i1 : Nat) (t : RS) : RS := fun P env => ∃ (ns : List Int) (k : Int), env[i0]? = some (some (.scr ns)) ∧ env[i1]? = some (some (.int k)) ∧ ns.length ≤ 63 ∧ 0 ≤ k ∧ k < 2 ^ 20 ∧
  t { nx := fun e => P.nx (dropB e), rt := fun d => nobag d = true ∧ P.rt d, bk := fun e => P.bk (dropB e), ct := fun e => P.ct (dropB e), ex := fun x e => nobag x.2 = true ∧ P.ex x (dropB e) } (env.set i (some .bag))
theorem JB.cost {X : Cx} {W : WX} {G : Bg} {c c' : Nat} {b : List Stmt} {t : RS} (h : JB X W G c b t) (e : c = c') : JB X W G c' b t := e ▸ h
theorem pss_ex {X : Cx} {st : List Stmt} {ι : Type} {t : ι → TS} (h : ∀ i, PSs X st (t i)) : PSs X st (fun D σ H => ∃ i, t i D σ H) := ⟨fun pins s σ H D I ⟨i, q⟩ => (h i).run pins s σ H D I q⟩
section
variable {X : Cx} {W : WX} {c : Nat}
theorem jb_pool {i i0 i1 k j : Nat} {x y : Str} {f : Addr} {fd : FuncData} {ps : List Str} {e0 e1 : Expr} {p p2 pos pos' : Pos} {rest : List Stmt} {t : RS} (F : FnOk X.prog X.w X.K X.mg X.base (L2.CX X.prog X.w) k f fd ps (spPool X.K)) (hr : RoomG j X.A) (hj : k ≤ j) (tk : Takes X W) (hg : Gl X y) (hm : X.mg y = some (.ref f)) (hk : PySem.W.keepIn X.K (.ref f) = true) (hb : Binds X.K fd ps [])
    (hN : X.N.Nodup) (hi : X.N[i]? = some x) (hx : L2.Loc X.env.scope x) (h0 : PE X e0 (tVar i0)) (h1 : PE X e1 (tVar i1)) (hrest : ∀ b : Addr, JB X W (some (.three, b, b)) c rest t)
    (hs : swapsWith (.Call (.Name y p) [e0, e1] [] pos) (some (.Name x pos')) p2.line X.env = pure false := by rfl) (hdb : (y == ("__debug__" : Str)) = false := by decide) (he : starEach [e0, e1] X.env = (false, eval e0 X.env) :: starEach [e1] X.env := by rfl) (hpl : (backTo pos (starEach [e1] X.env)).any (·.1) = false := by rfl)
    (hse1 : starEach [e1] X.env = (false, eval e1 X.env) :: starEach [] X.env := by rfl) (hf : X.fn x = true ∨ X.env.scope.names.lookup x = some .local := by first | exact .inl rfl | exact .inr rfl) :
    JB X W none c (.Assign [.Name x pos'] (.Call (.Name y p) [e0, e1] [] pos) p2 :: rest) (rPool i i0 i1 t) := by
  refine pssImp (pss_cons (ps_set (i := i) hN hi hx (pe_callS F (hr.toRoom.mono hj) hg hm hk hb (fun σ => passAt tk σ) (pa_cons h0 (pa_cons h1 pa_nil hse1) he) hdb he hpl) hs hf) (pss_ex fun b : Addr => hrest b)) fun Dn σ H h => ?_
  obtain ⟨n, Z, env, F1, P, l, s, ⟨ns, kk, a0, a1, hl, k0, k1, t1⟩, qn, qb, qc, qr, qx⟩ := h
  obtain ⟨v0, f0, g0, -, ⟨⟨a, ea, hS⟩, -⟩⟩ := s.at_ i0 _ a0
  obtain ⟨v1, f1, g1, -, r1⟩ := s.at_ i1 _ a1
  have ev1 : v1 = .int kk := r1.1
  subst ea ev1
  refine ⟨.ref a, g0, .int kk, g1, a, ns, kk, rfl, hS, hl, k0, k1, fun H' b sm hb bo => ⟨b, ?_⟩⟩
  refine ⟨0, Z, env.set i (some .bag), F1.set i [], _, by omega, s.inbag (fun a o => sm a o) hb bo i, t1, ?_, ?_, ?_, ?_, ?_⟩
  · exact fun Z2 env2 σ2 H2 F2 e q => qn _ _ _ _ _ (e.unbag (fun a o => sm a o) hb flat_set0) q
  · exact fun Z2 env2 σ2 H2 F2 e q => qb _ _ _ _ _ (e.unbag (fun a o => sm a o) hb flat_set0) q
  · exact fun Z2 env2 σ2 H2 F2 e q => qc _ _ _ _ _ (e.unbag (fun a o => sm a o) hb flat_set0) q
  · intro d v fp Z2 H2 st g o q
    have nb : ∀ a o, H a = some o → ¬ inB (some (BK.three, b, b)) a := fun a o h i => by
      have e : a = b := i.elim id id
      rw [e, hb] at h; cases h
    have fr : ∀ a, H' a = none → H a = none := fun a h => by
      cases e : H a with
      | none => rfl
      | some o => rw [sm a o e] at h; cases h
    refine qr d v fp Z2 H2 ⟨fun a o h _ m => st.keep a o (sm a o h) (nb a o h) fun z => m (flat_set0 a z), fun a o h => st.there a o (sm a o h), st.zz, fun a z => ?_, fun a m => ?_⟩ ⟨trivial, fun _ _ i => i.elim, g.tr⟩ ⟨Rp.other d v fp q.1 o.rp, o.nd, o.nz, fun _ _ i => i.elim⟩ q.2
    · rcases st.zn a z with z | z | z
      · exact .inl z
      · exact .inr (.inl (flat_set0 a z))
      · exact .inr (.inr (fr a z))
    · rcases st.fn a m with z | z
      · exact .inl (flat_set0 a z)
      · exact .inr (fr a z)
  · intro x cls da Z2 env2 σ2 H2 F2 e xr q
    obtain ⟨h1, dd, v, h2, h3, h4⟩ := xr
    exact qx x cls da _ _ _ _ _ (e.unbag (fun a o => sm a o) hb flat_set0) ⟨h1, dd, v, h2, h3, Rp.other _ _ _ q.1 h4⟩ q.2
end
end TT

set_option Elab.async false
set_option linter.all false
set_option maxRecDepth 100000
set_option maxHeartbeats 1000000
namespace TT
open PySem PySem.Spec PyProof.Rows L2
/-! ### repr of plain lists and tuples with numbers below 10 ** 41 -/
mutual
def okW : D → Bool
  | .non => true
  | .bl _ => true
  | .int i => decide (i.natAbs < 10 ^ 41)
  | .str x => PyData.strOk x
  | .tup ds => okWL ds
  | .lst _ ds => okWL ds
  | _ => false
def okWL : List D → Bool
  | [] => true
  | d :: ds => okW d && okWL ds
end
mutual
def wtW : D → Nat
  | .int _ => 140
  | .str x => x.cps.size
  | .tup ds => wtWL ds
  | .lst _ ds => wtWL ds
  | _ => 0
def wtWL : List D → Nat
  | [] => 0
  | d :: ds => wtW d + 1 + wtWL ds
end
theorem log2_41 {n : Nat} (h : n < 10 ^ 41) : n.log2 + 1 ≤ 140 := by
  by_cases z : n = 0
  · subst z; decide
  · have h2 : 10 ^ 41 ≤ 2 ^ 139 := Nat.le_of_ble_eq_true (by decide +kernel)
    have : n < 2 ^ 139 := by omega
    have := (Nat.log2_lt z).mpr this
    omega
theorem shown_42 {i : Int} (h : i.natAbs < 10 ^ 41) : (PyData.shown (.int i)).length ≤ 42 := by
  have e := int_text_length_le10 (k := 41) (by decide) h
  show (Str.ofString (toString i)).length ≤ 42
  rw [PySem.ofString_length]; exact e
mutual
theorem okW_py : ∀ d : D, okW d = true → (py d).canLay0 = true ∧ (py d).intsShort 42 = true ∧ (py d).showable = true ∧ (py d).weight ≤ wtW d
  | .non, _ => ⟨rfl, rfl, rfl, Nat.le_refl _⟩
  | .bl _, _ => ⟨rfl, rfl, rfl, Nat.le_refl _⟩
  | .int i, h => by
    have h : i.natAbs < 10 ^ 41 := by simpa [okW] using h
    have hl := log2_41 h
    refine ⟨rfl, ?_, ?_, ?_⟩
    · show decide ((PyData.shown (.int i)).length ≤ 42) = true
      exact decide_eq_true (shown_42 h)
    · show decide (i.natAbs.log2 < 1920) = true
      exact decide_eq_true (by omega)
    · show (if i == 0 then 0 else i.natAbs.log2 + 1) ≤ 140
      split <;> omega
  | .str x, h => ⟨by simpa [py, PyData.canLay0, okW] using h, rfl, rfl, Nat.le_refl _⟩
  | .tup ds, h => by
    obtain ⟨a, b, c, d⟩ := okWL_py ds (by simpa [okW] using h)
    exact ⟨by simpa [py, PyData.canLay0] using a, by simpa [py, PyData.intsShort] using b, by simpa [py, PyData.showable] using c, by simpa [py, PyData.weight, wtW] using d⟩
  | .lst _ ds, h => by
    obtain ⟨a, b, c, d⟩ := okWL_py ds (by simpa [okW] using h)
    exact ⟨by simpa [py, PyData.canLay0] using a, by simpa [py, PyData.intsShort] using b, by simpa [py, PyData.showable] using c, by simpa [py, PyData.weight, wtW] using d⟩
  | .dct _ _ _, h => by simp [okW] at h
  | .dcT _ _ _, h => by simp [okW] at h
  | .bag, h => by simp [okW] at h
  | .scr _, h => by simp [okW] at h
  | .exc _ _ _, h => by simp [okW] at h
  | .err _ _, h => by simp [okW] at h
theorem okWL_py : ∀ ds : List D, okWL ds = true → PyData.canLayAll0 (pyL ds) = true ∧ PyData.intsShortAll 42 (pyL ds) = true ∧ PyData.showableAll (pyL ds) = true ∧ PyData.weightAll (pyL ds) ≤ wtWL ds
  | [], _ => ⟨rfl, rfl, rfl, Nat.le_refl _⟩
  | d :: ds, h => by
    have h : (okW d && okWL ds) = true := by simpa [okWL] using h
    rw [Bool.and_eq_true] at h
    obtain ⟨a1, b1, c1, d1⟩ := okW_py d h.1
    obtain ⟨a2, b2, c2, d2⟩ := okWL_py ds h.2
    refine ⟨by simp [pyL, PyData.canLayAll0, a1, a2], by simp [pyL, PyData.intsShortAll, b1, b2], by simp [pyL, PyData.showableAll, c1, c2], ?_⟩
    show (py d).weight + 1 + PyData.weightAll (pyL ds) ≤ wtW d + 1 + wtWL ds
    omega
end
def gReprW : List D → (D → Prop) → Prop := fun ds Q => match ds with
  | [d] => isBox d = true ∧ sm 60 d = true ∧ okW d = true ∧ wtW d ≤ 2 ^ 18 ∧ Q (.str (shw d))
  | _ => False
def rReprW (K : PySem.W.Frag) : List V → Hp → VK → Prop := fun xs H Q =>
  ∃ a d, xs = [.ref a] ∧ Dp K H (.ref a) d ∧ PyData.canLay0 d = true ∧ d.weight ≤ 2 ^ 18 ∧ d.intsShort 42 = true ∧ d.showable = true ∧ d.depth ≤ 60 ∧ Q (.str d.shown) H
theorem call_reprW {X : Cx} (hg : X.A.guards = some []) (hu : X.A.units + 65 < cLine) : CallR X (.builtin "repr") (rReprW X.K) := by
  intro pins s σ H xs us Q I r h
  obtain ⟨a, d, e, hd, hl, hw, hi, hs, hdp, q⟩ := h
  subst e
  obtain ⟨u, rfl, ru⟩ := vals1 r
  obtain ⟨as, hr⟩ := Dp.reads I d _ u hd ru
  obtain rfl : u = Value.ref a := ru
  have hz := PyData.shown_le 42 (by decide) d (PyData.leavesShort_of_canLay0 42 d hl hi)
  have hl0 : PyData.layable0 d = true := by
    show (PyData.canLay0 d && decide (PyData.depth d ≤ 64) && decide (PyData.weight d ≤ 2 ^ 20)) = true
    rw [hl, decide_eq_true (show d.depth ≤ 64 by omega), decide_eq_true (show d.weight ≤ 2 ^ 20 by omega)]
    rfl
  refine PySem.repr_of_reads' hr hs (PyData.noDict_hsm (PyData.hasDict_of_layable hl0)) hg (by omega) (fun _ _ e => e) (fun h' u tk hk => ?_) (by rw [sizeLine_eq]; omega)
  exact ⟨.str d.shown, H, I.kept hk, ⟨_, rfl⟩, q⟩
theorem v_reprW {X : Cx} {G : Bg} : VOpL X G (rReprW X.K) gReprW := by
  intro n Z H ds xs fx Q' Q g0 o t q
  unfold gReprW at t
  split at t
  · rename_i d
    obtain ⟨v, e, o1⟩ := obL1 o
    obtain ⟨hb, hsm, hok, hw, t⟩ := t
    have hdp := rp_dp 60 d v _ hsm o1.rp
    obtain ⟨c1, c2, c3, c4⟩ := okW_py d hok
    have c5 := (sm_plain 60 d hsm).2
    obtain ⟨a, ea⟩ : ∃ a, v = .ref a := by
      cases d with
      | tup ds => obtain ⟨a, vs, e, _⟩ := o1.rp; exact ⟨a, e⟩
      | lst ow ds => cases ow with
        | true => obtain ⟨a, vs, fp', e, _⟩ := o1.rp; exact ⟨a, e⟩
        | false => obtain ⟨a, vs, e, _⟩ := o1.rp; exact ⟨a, e⟩
      | _ => simp [isBox] at hb
    subst ea
    exact ⟨a, py d, e, hdp, c1, by omega, c2, c3, c5, vdone (d := .str (shw d)) g0 q ⟨rfl, rfl⟩ t⟩
  · exact t.elim
end TT

set_option Elab.async false
set_option linter.all false
set_option maxRecDepth 100000
set_option maxHeartbeats 2000000
namespace TT
open PySem PySem.Spec PyProof.Rows L2
/-! ### defs called within an except suite, the caught error handed over -/
/-- a def's promise where p's object stands in the state, out of the reach of what is tracked -/
structure FnP (P : Program) (w : World) (K : PySem.W.Frag) (mg : Str → Option Value) (base : Heap) (k : Nat) (f : Addr) (fd : FuncData) (ps : List Str) (p : Addr × Obj) (sp : Sp) : Prop where
  len : ∀ vs H Q E, sp vs H Q E → vs.length = ps.length
  run : ∀ (A : Around) (up : List Env) (s : Shared) (H : Hp) (ar : Args) (ws : List Value) (xs : List V) (Q : VK) (E : XK), L2H.RoomH k A → L2H.PinOk up H s p → Env0 P w K mg base A up s H → BindsTo s fd ar (ps.zip ws) → Vals xs ws → sp xs H Q E →
    codeAny (model P w) A (.call (.ref f) ar) (CR (L2.CX P w) up P w H s Q E) s
abbrev cxP (P : Program) (w : World) (K : PySem.W.Frag) (mg : Str → Option Value) (base : Heap) (N : List Str) (qual : Str) (st : Stmt) (f : Addr) (cdv : Value) (A : Around) (up : List Env) (s : Shared) (H : Hp) (E : XK) (p : Addr × Obj) : Cx := L2H.cxH (L2.CX P w) P w K mg base N qual (defScope st) f cdv A up s H E p
section
variable {P : Program} {w : World} {K : PySem.W.Frag} {mg : Str → Option Value} {base : Heap} {G : Bg}
theorem fn_p {k : Nat} {f : Addr} {name qual : Str} {params : Arguments} {body : List Stmt} {scope : Scope} {dV kV doc pm cdv ct oc : Value} {an od : Option Addr} {osl : Array (Option Value)} {N ps : List Str} {p : Addr × Obj} {sp : Sp}
    (lk : K.lookup f = some ⟨oc, od, .func (PySem.W.fnOf name qual params body scope dV kV doc pm an cdv ct), osl⟩) (cd : PySem.W.codeIn K cdv qual = true) (S : FnScope N ps scope) (len : ∀ xs H Q E, sp xs H Q E → xs.length = ps.length)
    (bd : ∀ (A : Around) (up : List Env) (s : Shared) (H : Hp) (xs : List V) (Q : VK) (E : XK), L2H.RoomH k (A.deeper (envOfC qual scope s.heap.objs.size f cdv)) → sp xs H Q E →
      ∃ t, PSs (L2H.cxH (L2.CX P w) P w K mg base N qual scope f cdv A up s H E p) body t ∧ t { nx := fun _ H1 => Q .non H1, rt := Q } (L2.start N xs) H) :
    FnP P w K mg base (k + 1) f (PySem.W.fnOf name qual params body scope dV kV doc pm an cdv ct) ps p sp := by
  refine ⟨len, fun A up s H ar ws xs Q E hr hpin en hbd rv hsp => ?_⟩
  have kn := en.mod.kin.keeps fun b o e => (en.bs b o e).1
  have cells : ∀ y ∈ ps.zip ws, scope.names.lookup y.1 = some .local ∨ (scope.names.lookup y.1 = some .cell ∧ ((cellsFrom (s.heap.objs.size + 1) scope.names []).lookup y.1).isSome = true) := by
    rintro ⟨nm, v⟩ hy
    exact (S.par nm (List.of_mem_zip hy).1).imp id fun q => ⟨q, PySem.W.cellsFrom_some _ _ _ (.inl q)⟩
  obtain ⟨t, ht, hq⟩ := bd A up s H xs Q E (hr.deeper _) hsp
  refine codeAny_call_function hr.depth (kn _ _ lk) rfl S.co S.gen rfl (PySem.W.codeRec_of kn cd) (hbd _ _ _ _ (wpAny_newFunctionEnv_cells S.kind cells fun env he s1 x => ?_))
  subst he
  refine ⟨(en.mod.nolimit.keeps fun b o e => (en.bs b o e).1).keeps x.toInCall.keep, codeAny_func ?_⟩
  have J0 : Inv (L2H.cxH (L2.CX P w) P w K mg base N qual scope f cdv A up s H E p) [] (L2.start N xs) H s1 := L2H.inv_startH S hpin en (len _ _ _ _ hsp) rv x
  refine wpAny_mono (ht.run [] s1 _ H _ J0 hq) (fun fl s2 e => ?_) fun _ _ z => z
  match fl, e with
  | .ret u, ⟨v, _, H1, J, r, q⟩ => exact ⟨v, H1, J.os, J.bare, J.base, J.hok, r, q⟩
  | .next, ⟨_, H1, J, q⟩ => exact ⟨.non, H1, J.os, J.bare, J.base, J.hok, rfl, q⟩
  | .brk, ⟨_, _, _, q⟩ => exact q.elim
  | .cont, ⟨_, _, _, q⟩ => exact q.elim
def FnPT (P : Program) (w : World) (K : PySem.W.Frag) (mg : Str → Option Value) (base : Heap) (G : Bg) (c k : Nat) (f : Addr) (fd : FuncData) (ps : List Str) (p : Addr × Obj) (sp : Spt) : Prop := FnP P w K mg base k f fd ps p (liS K mg G c ps.length sp)
theorem Fun.okP {x qual : Str} {st : Stmt} {f : Addr} {fd : FuncData} {N ps : List Str} {k c : Nat} {p : Addr × Obj} {sp : Spt} (F : Fun K x qual st f fd) (S : FnScope N ps (defScope st))
    (hbody : ∀ (cdv : Value) (A : Around) (up : List Env) (s : Shared) (H : Hp) (E : XK), L2H.RoomH k (A.deeper (envOfC qual (defScope st) s.heap.objs.size f cdv)) →
      ∃ t, JB (cxP P w K mg base N qual st f cdv A up s H E p) (fun _ _ _ _ => False) G c (defBody st) t ∧
        ∀ ds Q', ds.length = ps.length → sp ds Q' (fun _ => False) → t { nx := fun _ => Q' .non, rt := Q' } (startE N ds)) (hno : ∀ ds Q' E', sp ds Q' E' → sp ds Q' (fun _ => False)) : FnPT P w K mg base G c (k + 1) f fd ps p sp := by
  have hpl : ps.length ≤ N.length := by have := congrArg List.length S.pre; rw [List.length_take] at this; omega
  obtain ⟨_, _, _, _, _, _, cdv, _, _, e, lk, cd⟩ := F.ex
  subst e
  refine fn_p lk cd S (fun vs H Q E h => h.len) (fun A up s H vs Q E hr hsp => ?_)
  obtain ⟨t, ht, hq⟩ := hbody cdv A up s H E hr
  obtain ⟨n, Z, ds, Q', E', pr, r, l, sp', q, x⟩ := hsp
  refine ⟨_, ht, n, Z, startE N ds, List.replicate N.length [], _, pr.le, stt_start pr.gd r (by omega), hq ds Q' l (hno _ _ _ sp'), ?_, ?_, ?_, ?_, ?_⟩
  all_goals have ef : (List.replicate N.length ([] : List Addr)).flatten = [] := by simp
  · intro Z' env' σ' H' F' e q'
    rw [ef] at e
    exact q .non .non [] Z' H' ⟨⟨e.st.keep, e.st.there, e.st.zz, e.st.zn, (fun _ m => (nomatch m))⟩, e.stt.gd⟩ (Ob.flat ⟨rfl, rfl⟩) q'
  · intro Z' env' σ' H' F' e q'
    exact q'.elim
  · intro Z' env' σ' H' F' e q'
    exact q'.elim
  · intro d v fp Z' H' st g o q'
    rw [ef] at st
    exact q d v fp Z' H' ⟨st, g⟩ o q'
  · intro y cls da Z' env' σ' H' F' e xr q'
    exact q'.elim
def CalP (P : Program) (w : World) (K : PySem.W.Frag) (mg : Str → Option Value) (base : Heap) (G : Bg) (x : Str) (c k : Nat) (ps : List Str) (p : Addr × Obj) (sp : Spt) : Prop :=
  ∃ f fd, FnPT P w K mg base G c k f fd ps p sp ∧ mg x = some (.ref f) ∧ PySem.W.keepIn K (.ref f) = true ∧ Binds K fd ps []
end
section
variable {X : Cx} {W : WX} {G : Bg} {c c1 c2 : Nat} {e : Expr} {es : List Expr} {pos p2 : Pos}
theorem roomH_mark {j k : Nat} {A : Around} {x : Option Value} (hr : RoomG j A) (hj : k ≤ j) : L2H.RoomH k (A.mark x) := ⟨by have := (hr.toRoom.mono hj).dp; exact this, by have := (hr.toRoom.mono hj).un; exact this⟩
theorem je_callX {x : Str} {ps : List Str} {k : Nat} {p : Addr × Obj} {sp : Spt} {t : RA} (C : CalP X.prog X.w X.K X.mg X.base G x c2 k ps p sp) (hr : L2H.RoomH k X.A) (hp : p ∈ X.pn) (hg : Gl X x) (ha : JA X W G c1 (e :: es) t)
    (hno : ∀ ds Q' E', sp ds Q' E' → sp ds Q' (fun _ => False))
    (hdb : (x == ("__debug__" : Str)) = false := by decide) (he : starEach (e :: es) X.env = (false, eval e X.env) :: starEach es X.env := by rfl) (hpl : (backTo pos (starEach es X.env)).any (·.1) = false := by rfl) :
    JE X W G (c1 + c2) (.Call (.Name x p2) (e :: es) [] pos) (rCall sp ps.length t) := by
  obtain ⟨f, fd, F, hm, hk, hb⟩ := C
  have P0 : PE X (.Call (.Name x p2) (e :: es) [] pos) (tCallS (liS X.K X.mg G c2 ps.length sp) (fun _ _ _ _ => False) (liA X W G c1 t)) := by
    refine ⟨fun pins s σ H Q I h => wpAny_Call_Name_kw (ld_glob I hg hm ?_ hdb)⟩
    refine PySem.W.callWith_K (h₀ := X.base) I.ok.mod.kin hk (thn (ha.run pos pins s σ H _ I h) fun ws s1 ⟨xs, H1, I1, r, q⟩ => ⟨I1.kIn, ?_⟩) he hpl
    have hl : ws.length = ps.length := by rw [← r.length]; exact F.len _ _ _ _ q
    have b := hb s1 ws I1.kIn (by rw [List.append_nil]; exact hl)
    rw [List.append_nil] at b
    have P1 := I1.pin p (List.mem_append_left _ hp)
    have hpin : L2H.PinOk X.stack H1 s1 p := ⟨P1.1, P1.2.1, fun hm => (List.mem_cons.mp (I1.stkSub p.1 hm)).elim P1.2.2.1 P1.2.2.2.1, P1.2.2.2.2⟩
    refine wpAny_call (codeAny_mono (F.run X.A X.stack s1 H1 ⟨ws, []⟩ ws xs Q (fun _ _ _ => False) hr hpin I1.env0 b r q) fun y s2 hy => ?_)
    match y, hy with
    | .error e, hy =>
      obtain ⟨_, _, _, _, _, _, _, _, _, _, _, _, z⟩ := hy
      exact z.elim
    | .ok (.ret u), hy => exact I1.after hy
    | .ok .next, hy => exact hy.elim
    | .ok .brk, hy => exact hy.elim
    | .ok .cont, hy => exact hy.elim
  refine peImp P0 fun σ H Q h => ?_
  obtain ⟨n, Z, env, Q', E', pr, w, t, q, xx⟩ := h
  refine ⟨n, Z, env, _, E', pr.left, w, t, fun ds vs fp Z1 H1 r1 o1 t1 => ?_, fun y cls da Z1 H1 r => xx y cls da Z1 H1 r.up⟩
  obtain ⟨g2, o2, s2⟩ := o1.share r1.gd
  have r2 := r1.op s2 g2
  refine ⟨n + c1, _, frzL ds, Q', fun _ => False, pr.right r2, o2, ?_, hno _ _ _ t1.2, fun d v f3 Z3 H3 r3 o3 q3 => ?_, fun y cls da Z3 H3 r3 xr e3 => e3.elim⟩
  · rw [frzL_map, List.length_map]; exact t1.1
  · exact q d v f3 Z3 H3 (r2.par r3) o3 q3
/-! isinstance of the caught error, handed over -/
def rIsP (K : PySem.W.Frag) (C a dd : Addr) : List V → Hp → VK → Prop := fun xs H Q => ∃ c cv fs b, xs = [.ref a, c] ∧ ClsV c cv ∧ H dd = some (.xd fs) ∧ PySem.W.kitOne K (.ref C) cv = some b ∧ Q (.bl b) H
theorem call_isP {C dd : Addr} {p : Addr × Obj} (hp : p ∈ X.pn) (hE : ErrK X.K C) (hz : Zc (.ref C) (some dd) p.2) (hf : ∃ vs, p.2.data = .fields vs) : CallR X (.builtin "isinstance") (rIsP X.K C p.1 dd) := by
  intro pins s σ H xs us Q I r h
  obtain ⟨c, cv, fs, b, e, hcv, ed, hk, q⟩ := h
  subst e
  obtain ⟨hget, _⟩ := I.pin p (List.mem_append_left _ hp)
  have hx : ObjOk X.prog X.w H s.heap dd (.xd fs) := I.hok dd _ ed
  obtain ⟨mA, hns, hr⟩ := hx
  obtain ⟨od, ho, hl⟩ := lookIn_ns hns
  obtain ⟨vs, hv⟩ := hf
  have J : PySem.W.InstAt s.heap p.1 p.2 C (some od) := ⟨hget, hz.1, by unfold PySem.W.notCls; rw [hv] <;> rfl, by rw [hz.2]; exact ho⟩
  match us, r with
  | [u1, u2], .cons r1 (.cons r2 .nil) =>
    obtain rfl : u1 = Value.ref p.1 := r1
    obtain rfl : u2 = cv := by cases hcv <;> exact r2
    exact PySem.W.kia_one (PySem.W.kitx_exc hE.cC hE.ga hE.gg hE.exC hE.cl hE.sp hE.tk hE.mo) I.kIn J hk (by intro z; cases z) fun tk => ⟨.bl b, H, I.tok _, rfl, q⟩
def gIsX (a dd : Addr) (b : Option Bool) : D → (D → Prop) → Prop := fun x Q => match x, b with
  | .exc a' dd' _, some b => a' = a ∧ dd' = dd ∧ Q (.bl b)
  | _, _ => False
theorem je_isX {y : Str} {q2 : Pos} {te : RE} {cl : V} {cv : Value} {C dd : Addr} {p : Addr × Obj} {b : Bool} (hg : Gl X "isinstance") (hm : X.mg "isinstance" = none) (hb : bootBuiltins "isinstance" = some (.builtin "isinstance")) (hp : p ∈ X.pn) (hE : ErrK X.K C) (hz : Zc (.ref C) (some dd) p.2) (hf : ∃ vs, p.2.data = .fields vs)
    (he : JE X W G c e te) (hcl : PE X (.Name y q2) (tC cl)) (hcv : ClsV cl cv) (hk : PySem.W.kitOne X.K (.ref C) cv = some b)
    (hs : starEach [e, .Name y q2] X.env = (false, eval e X.env) :: starEach [.Name y q2] X.env := by rfl) (hs2 : starEach [.Name y q2] X.env = (false, eval (.Name y q2) X.env) :: starEach [] X.env := by rfl) (hpl : (backTo pos (starEach [.Name y q2] X.env)).any (·.1) = false := by rfl) :
    JE X W G c (.Call (.Name "isinstance" p2) [e, .Name y q2] [] pos) (r1 te (gIsX p.1 dd (some b))) := by
  refine peImp (pe_callB (call_isP hp hE hz hf) hg hm hb (pa_cons he (pa_cons hcl pa_nil hs2) hs) (by decide) (by decide) hs hpl) fun σ H Q h => ?_
  obtain ⟨n, Z, env, Q', E', pr, w, t, q, x⟩ := h
  refine ⟨n, Z, env, _, E', pr, w, t, fun d v fp Z1 H1 r1 o1 t1 => ?_, x⟩
  unfold gIsX at t1
  split at t1
  · rename_i a' dd' d' b' hbb
    cases hbb
    obtain ⟨e1, e2, t1⟩ := t1
    subst e1 e2
    obtain ⟨ev, ef, u, hd, rp⟩ := o1.rp
    subst ev ef
    exact ⟨cl, cv, _, b, rfl, hcv, hd, hk, q (.bl b) (.bl b) [] Z1 H1 r1 (Ob.flat ⟨rfl, rfl⟩) t1⟩
  · exact t1.elim
end
/-! ### the eight errors of the program -/
def erN : List Str := ["InvalidRace", "InvalidPoints", "InvalidScore", "InvalidSide", "InvalidNumber", "MatchOver", "NothingToUndo", "Unreadable"]
def erNm (i : Nat) : Str := erN.getD i ""
structure Er (K : PySem.W.Frag) (mg : Str → Option Value) : Type where
  C : Str → Addr
  i : Str → Addr
  qn : Str → Str
  T : ∀ x, x ∈ erN → PySem.OwnX.OwnTxt x (qn x) K mg (C x) (i x)
  E : ∀ x, x ∈ erN → ErrK K (C x)
  kt : ∀ x, x ∈ erN → ∀ y, y ∈ erN → PySem.W.kitOne K (.ref (C x)) (.ref (C y)) = some (decide (x = y))
  M : Addr
  gM : mg "MatchError" = some (.ref M)
  kM : ∀ x, x ∈ erN → PySem.W.kitOne K (.ref (C x)) (.ref M) = some true
  xM : ∀ x, x ∈ erN → PySem.W.exmOne K (.ref (C x)) (.ref M) = some true
  nV : mg "ValueError" = none
  kV : ∀ x, x ∈ erN → PySem.W.kitOne K (.ref (C x)) (.type "ValueError") = some true
  nI : mg "isinstance" = none
section
variable {X : Cx}
theorem erMem {y : Str} {b : Bool} (h : exs erN y = some b) : y ∈ erN := (exs_mem h).2
theorem Er.cls (er : Er X.K X.mg) {y : Str} {cls : Value} (hy : exs erN y = some true) (hm : X.mg y = some cls) : cls = .ref (er.C y) := by
  have := (er.T y (erMem hy)).gC
  rw [this] at hm
  cases hm
  rfl
theorem Er.zc (er : Er X.K X.mg) {y : Str} {cls : Value} {d : Option Addr} {oe : Obj} (hy : exs erN y = some true) (hm : X.mg y = some cls) (hz : Zc cls d oe) : Zc (.ref (er.C y)) d oe := by
  have := er.cls hy hm
  subst this
  exact hz
theorem Er.fam (er : Er X.K X.mg) : Fam X (.ref er.M) (exs erN) := ⟨fun x b cls hx hm => by
  obtain ⟨e1, e2⟩ := exs_mem hx
  subst e1
  have := (er.T x e2).gC
  rw [this] at hm
  cases hm
  exact er.xM x e2⟩
theorem Er.nm (er : Er X.K X.mg) (hg : Gl X "MatchError") : Names X "MatchError" (.ref er.M) := ⟨hg, by decide, .inl er.gM⟩
end
end TT

set_option Elab.async false
set_option linter.all false
set_option maxRecDepth 100000
set_option maxHeartbeats 2000000
namespace TT
open PySem PySem.Spec PyProof.Rows L2 PySem.Builtin
theorem _root_.L2H.RoomH.units {k : Nat} {A : Around} (r : L2H.RoomH k A) : A.units + 64 < cLine := by have := r.un; omega
/-! ### texts times numbers, slices of texts, a sign in a text -/
section
variable {X : Cx} {W : WX} {G : Bg} {c c1 c2 : Nat} {a b e : Expr} {ta tb : RE} {pos p2 : Pos}
theorem op_strmul : OpR X (binaryOp .Mult) (fun x y H Q => ∃ z n, x = .str z ∧ y = .int n ∧ MulOk z n ∧ Q (.str (Txt.mul z n)) H) := by
  intro pins s σ H x y v u Q I rx ry h
  obtain ⟨z, n, rfl, rfl, hz, q⟩ := h
  obtain ⟨t, rfl⟩ := rx
  obtain ⟨t', rfl⟩ := ry
  exact SB.mul hz fun t' k => ⟨.str _, H, I.tok _, ⟨_, rfl⟩, q⟩
def gMulX : D → D → (D → Prop) → Prop := fun x y Q => match x, y with
  | .str z, .int n => MulOk z n ∧ Q (.str (Txt.mul z n))
  | x, y => gMul x y Q
theorem v_mulX : VOp2 X G (fun x y H Q => rMulD x y H Q ∨ ∃ z n, x = .str z ∧ y = .int n ∧ MulOk z n ∧ Q (.str (Txt.mul z n)) H) gMulX := by
  intro n Z H dx x fx dy y fy Q' Q g ox oy ap t q
  unfold gMulX at t
  split at t
  · rename_i z i
    exact .inr ⟨z, i, ox.rp.1, oy.rp.1, t.1, vdone (d := .str (Txt.mul z i)) g q ⟨rfl, rfl⟩ t.2⟩
  · exact .inl (v_mul n Z H dx x fx dy y fy Q' Q g ox oy ap t q)
theorem je_mulX (ha : JE X W G c1 a ta) (hb : JE X W G c2 b tb) : JE X W G (c1 + c2) (.BinOp a .Mult b pos) (r2 ta tb gMulX) := je_op (op_mulD.or op_strmul) v_mulX ha hb
theorem mulOk {z : Str} {n : Int} (hz : z.length ≤ 1000) (h0 : 0 ≤ n) (h1 : n ≤ 1000) : MulOk z n := by
  refine ⟨?_, fun h _ => ?_, fun _ _ => ?_⟩
  · rw [decide_eq_false (by omega), decide_eq_false (by omega)]; rfl
  · have h3 : (1000 : Int) ≤ (2 ^ 63 - 1) / n := Int.le_ediv_of_mul_le (by omega) (by omega)
    omega
  · have h4 : z.length * n.toNat ≤ 1000 * 1000 := Nat.mul_le_mul hz (by omega)
    unfold PySem.Builtin.Str.tooLong
    rw [sizeLine_eq]
    exact decide_eq_false (by omega)
/-! slices -/
def gSlLoX : D → D → (D → Prop) → Prop := fun x y Q => match x, y with
  | .str z, .int i => 0 ≤ i ∧ z.length ≤ sizeLine ∧ Q (.str ⟨(z.cps.toList.drop i.toNat).toArray⟩)
  | x, y => gSlLo x y Q
def gSlHiX : D → D → (D → Prop) → Prop := fun x y Q => match x, y with
  | .str z, .int i => 0 ≤ i ∧ z.length ≤ sizeLine ∧ Q (.str ⟨(z.cps.toList.take i.toNat).toArray⟩)
  | x, y => gSlHi x y Q
theorem cutS_lo {z : Str} {i : Int} (h : 0 ≤ i) : cutS z (some i) none = ⟨(z.cps.toList.drop i.toNat).toArray⟩ := by
  obtain ⟨k, rfl⟩ := Int.eq_ofNat_of_zero_le h
  have hl : z.length = z.cps.toList.length := by simp [Str.length]
  unfold cutS
  rw [HT.sIx_nat, HT.sIx_none]
  congr 2
  by_cases hk : k ≤ z.length
  · rw [Nat.min_eq_left hk]
    show (z.cps.toList.drop k).take (z.length - k) = z.cps.toList.drop k
    exact List.take_of_length_le (by rw [List.length_drop, hl]; exact Nat.le_refl _)
  · rw [Nat.min_eq_right (by omega), hl, List.drop_length, List.take_nil]
    exact (List.drop_eq_nil_of_le (by show z.cps.toList.length ≤ k; omega)).symm
theorem cutS_hi {z : Str} {i : Int} (h : 0 ≤ i) : cutS z none (some i) = ⟨(z.cps.toList.take i.toNat).toArray⟩ := by
  obtain ⟨k, rfl⟩ := Int.eq_ofNat_of_zero_le h
  have hl : z.length = z.cps.toList.length := by simp [Str.length]
  unfold cutS
  rw [HT.sIx_nat, HT.sIx_none, List.drop_zero, Nat.sub_zero]
  congr 2
  by_cases hk : k ≤ z.length
  · rw [Nat.min_eq_left hk]; rfl
  · rw [Nat.min_eq_right (by omega), hl, List.take_length]
    exact (List.take_of_length_le (by show z.cps.toList.length ≤ k; omega)).symm
theorem v_slLoX : VOp2 X G (fun x y H Q => ∃ i, y = .int i ∧ (rSlL X.K x (some i) none H Q ∨ rSlS x (some i) none H Q)) gSlLoX := by
  intro n Z H dx x fx dy y fy Q' Q g ox oy ap t q
  unfold gSlLoX at t
  split at t
  · rename_i z i
    refine ⟨i, oy.rp.1, .inr ⟨z, ox.rp.1, t.2.1, ?_⟩⟩
    rw [cutS_lo t.1]
    exact vdone (d := .str _) g q ⟨rfl, rfl⟩ t.2.2
  · obtain ⟨i, e, r⟩ := v_slLo n Z H dx x fx dy y fy Q' Q g ox oy ap t q
    exact ⟨i, e, .inl r⟩
theorem v_slHiX : VOp2 X G (fun x y H Q => ∃ i, y = .int i ∧ (rSlL X.K x none (some i) H Q ∨ rSlS x none (some i) H Q)) gSlHiX := by
  intro n Z H dx x fx dy y fy Q' Q g ox oy ap t q
  unfold gSlHiX at t
  split at t
  · rename_i z i
    refine ⟨i, oy.rp.1, .inr ⟨z, ox.rp.1, t.2.1, ?_⟩⟩
    rw [cutS_hi t.1]
    exact vdone (d := .str _) g q ⟨rfl, rfl⟩ t.2.2
  · obtain ⟨i, e, r⟩ := v_slHi n Z H dx x fx dy y fy Q' Q g ox oy ap t q
    exact ⟨i, e, .inl r⟩
theorem je_slLoX (ha : JE X W G c1 a ta) (hb : JE X W G c2 b tb) : JE X W G (c1 + c2) (.Subscript a (.Slice (some b) none none p2) pos) (r2 ta tb gSlLoX) :=
  peImp (pe_slice (sl_list.or sl_str) ha (po_some hb) po_none) (tOp_of v_slLoX)
theorem je_slHiX (ha : JE X W G c1 a ta) (hb : JE X W G c2 b tb) : JE X W G (c1 + c2) (.Subscript a (.Slice none (some b) none p2) pos) (r2 ta tb gSlHiX) :=
  peImp (pe_slice (sl_list.or sl_str) ha po_none (po_some hb)) (tOp_of v_slHiX)
/-! a sign in a text -/
def gSgn (neg : Bool) : D → D → (D → Prop) → Prop := fun x y Q => match x, y with
  | .str u, .str z => ∃ ch : Nat, u = ⟨#[ch]⟩ ∧ Q (.bl (if neg then !decide (ch ∈ z.cps.toList) else decide (ch ∈ z.cps.toList)))
  | _, _ => False
theorem v_sgn : VOp2 X G (fun x y H Q => ∃ (c : Nat) (z : Str), x = .str ⟨#[c]⟩ ∧ y = .str z ∧ Q (.bl (!decide (c ∈ z.cps.toList))) H) (gSgn true) := by
  intro n Z H dx x fx dy y fy Q' Q g ox oy ap t q
  unfold gSgn at t
  split at t
  · rename_i u z
    obtain ⟨ch, e, t⟩ := t
    have e1 : x = .str u := ox.rp.1
    have e2 : y = .str z := oy.rp.1
    exact ⟨ch, z, by rw [e1, e], e2, vdone (d := .bl _) g q ⟨rfl, rfl⟩ t⟩
  · exact t.elim
theorem jt_notInS (ha : JE X W G c1 a ta) (hb : JE X W G c2 b tb) (hm : behindInMarks .NotIn b = false := by with_unfolding_all rfl) : JT X W G (c1 + c2) (.Compare a [.NotIn] [b] pos) (fun env Q E => r2 ta tb (gSgn true) env (fun d => gBl d Q) E) := jt_cmp op_notIn_sign v_sgn ha hb hm
end
end TT

set_option Elab.async false
set_option linter.all false
set_option maxRecDepth 100000
set_option maxHeartbeats 1000000
namespace TT
open PySem PySem.Spec PyProof.Rows L2
/-! ### the eight errors, from facts that are asked in the kernel -/
theorem er_idx : ∀ k, k < 8 → erN.idxOf (erNm k) = k := by decide +kernel
theorem er_in (x : Str) (h : x ∈ erN) : ∃ k, k < 8 ∧ x = erNm k := by
  obtain ⟨k, hk, e⟩ := List.mem_iff_getElem.mp h
  have h8 : erN.length = 8 := rfl
  refine ⟨k, by omega, ?_⟩
  unfold erNm
  rw [List.getD_eq_getElem?_getD, List.getElem?_eq_getElem hk]
  exact e.symm
theorem er_inj : ∀ i, i < 8 → ∀ j, j < 8 → decide (erNm i = erNm j) = decide (i = j) := by decide +kernel
def erQ (k : Nat) : Str := (["InvalidRace.__init__", "InvalidPoints.__init__", "InvalidScore.__init__", "InvalidSide.__init__", "InvalidNumber.__init__", "MatchOver.__init__", "NothingToUndo.__init__", "Unreadable.__init__"] : List Str).getD k ""
def erKt (K : PySem.W.Frag) (cs : List Addr) : Bool := (List.range 8).all fun i => (List.range 8).all fun j => match PySem.W.kitOne K (.ref (cs.getD i 0)) (.ref (cs.getD j 0)) with
  | some b => b == decide (i = j)
  | none => false
def erKc (K : PySem.W.Frag) (cs : List Addr) (cv : Value) : Bool := (List.range 8).all fun i => match PySem.W.kitOne K (.ref (cs.getD i 0)) cv with
  | some b => b
  | none => false
def erXm (K : PySem.W.Frag) (cs : List Addr) (cv : Value) : Bool := (List.range 8).all fun i => match PySem.W.exmOne K (.ref (cs.getD i 0)) cv with
  | some b => b
  | none => false
theorem erKt_of {K : PySem.W.Frag} {cs : List Addr} (h : erKt K cs = true) (i : Nat) (hi : i < 8) (j : Nat) (hj : j < 8) : PySem.W.kitOne K (.ref (cs.getD i 0)) (.ref (cs.getD j 0)) = some (decide (i = j)) := by
  have h1 := List.all_eq_true.mp (List.all_eq_true.mp h i (List.mem_range.mpr hi)) j (List.mem_range.mpr hj)
  cases e : PySem.W.kitOne K (.ref (cs.getD i 0)) (.ref (cs.getD j 0)) with
  | none => rw [e] at h1; cases h1
  | some b =>
    rw [e] at h1
    exact congrArg some (eq_of_beq h1)
theorem erKc_of {K : PySem.W.Frag} {cs : List Addr} {cv : Value} (h : erKc K cs cv = true) (i : Nat) (hi : i < 8) : PySem.W.kitOne K (.ref (cs.getD i 0)) cv = some true := by
  have h1 := List.all_eq_true.mp h i (List.mem_range.mpr hi)
  cases e : PySem.W.kitOne K (.ref (cs.getD i 0)) cv with
  | none => rw [e] at h1; cases h1
  | some b =>
    rw [e] at h1
    exact congrArg some h1
theorem erXm_of {K : PySem.W.Frag} {cs : List Addr} {cv : Value} (h : erXm K cs cv = true) (i : Nat) (hi : i < 8) : PySem.W.exmOne K (.ref (cs.getD i 0)) cv = some true := by
  have h1 := List.all_eq_true.mp h i (List.mem_range.mpr hi)
  cases e : PySem.W.exmOne K (.ref (cs.getD i 0)) cv with
  | none => rw [e] at h1; cases h1
  | some b =>
    rw [e] at h1
    exact congrArg some h1
def er_of {K : PySem.W.Frag} {mg : Str → Option Value} (cs is : List Addr) (CM : Addr) (T : ∀ k, k < 8 → PySem.OwnX.OwnTxt (erNm k) (erQ k) K mg (cs.getD k 0) (is.getD k 0)) (E : ∀ k, k < 8 → ErrK K (cs.getD k 0))
    (kt : erKt K cs = true) (kM : erKc K cs (.ref CM) = true) (xM : erXm K cs (.ref CM) = true) (kV : erKc K cs (.type "ValueError") = true) (gM : mg "MatchError" = some (.ref CM)) (nV : mg "ValueError" = none) (nI : mg "isinstance" = none) : Er K mg where
  C := fun x => cs.getD (erN.idxOf x) 0
  i := fun x => is.getD (erN.idxOf x) 0
  qn := fun x => erQ (erN.idxOf x)
  T := fun x hx => by
    obtain ⟨k, hk, rfl⟩ := er_in x hx
    rw [er_idx k hk]
    exact T k hk
  E := fun x hx => by
    obtain ⟨k, hk, rfl⟩ := er_in x hx
    rw [er_idx k hk]
    exact E k hk
  kt := fun x hx y hy => by
    obtain ⟨i, hi, rfl⟩ := er_in x hx
    obtain ⟨j, hj, rfl⟩ := er_in y hy
    rw [er_idx i hi, er_idx j hj, er_inj i hi j hj]
    exact erKt_of kt i hi j hj
  M := CM
  gM := gM
  kM := fun x hx => by
    obtain ⟨k, hk, rfl⟩ := er_in x hx
    rw [er_idx k hk]
    exact erKc_of kM k hk
  xM := fun x hx => by
    obtain ⟨k, hk, rfl⟩ := er_in x hx
    rw [er_idx k hk]
    exact erXm_of xM k hk
  nV := nV
  kV := fun x hx => by
    obtain ⟨k, hk, rfl⟩ := er_in x hx
    rw [er_idx k hk]
    exact erKc_of kV k hk
  nI := nI
end TT

set_option Elab.async false
set_option linter.all false
set_option maxRecDepth 100000
set_option maxHeartbeats 1000000
namespace TT
open PySem PySem.Spec PyProof.Rows L2
/-! ### the same repr for heavier lists -/
def gReprV : List D → (D → Prop) → Prop := fun ds Q => match ds with
  | [d] => isBox d = true ∧ sm 60 d = true ∧ okW d = true ∧ wtW d ≤ 300000 ∧ Q (.str (shw d))
  | _ => False
def rReprV (K : PySem.W.Frag) : List V → Hp → VK → Prop := fun xs H Q =>
  ∃ a d, xs = [.ref a] ∧ Dp K H (.ref a) d ∧ PyData.canLay0 d = true ∧ d.weight ≤ 300000 ∧ d.intsShort 42 = true ∧ d.showable = true ∧ d.depth ≤ 60 ∧ Q (.str d.shown) H
theorem call_reprV {X : Cx} (hg : X.A.guards = some []) (hu : X.A.units + 65 < cLine) : CallR X (.builtin "repr") (rReprV X.K) := by
  intro pins s σ H xs us Q I r h
  obtain ⟨a, d, e, hd, hl, hw, hi, hs, hdp, q⟩ := h
  subst e
  obtain ⟨u, rfl, ru⟩ := vals1 r
  obtain ⟨as, hr⟩ := Dp.reads I d _ u hd ru
  obtain rfl : u = Value.ref a := ru
  have hz := PyData.shown_le 42 (by decide) d (PyData.leavesShort_of_canLay0 42 d hl hi)
  have hl0 : PyData.layable0 d = true := by
    show (PyData.canLay0 d && decide (PyData.depth d ≤ 64) && decide (PyData.weight d ≤ 2 ^ 20)) = true
    rw [hl, decide_eq_true (show d.depth ≤ 64 by omega), decide_eq_true (show d.weight ≤ 2 ^ 20 by omega)]
    rfl
  refine PySem.repr_of_reads' hr hs (PyData.noDict_hsm (PyData.hasDict_of_layable hl0)) hg (by omega) (fun _ _ e => e) (fun h' u tk hk => ?_) (by rw [sizeLine_eq]; omega)
  exact ⟨.str d.shown, H, I.kept hk, ⟨_, rfl⟩, q⟩
theorem v_reprV {X : Cx} {G : Bg} : VOpL X G (rReprV X.K) gReprV := by
  intro n Z H ds xs fx Q' Q g0 o t q
  unfold gReprV at t
  split at t
  · rename_i d
    obtain ⟨v, e, o1⟩ := obL1 o
    obtain ⟨hb, hsm, hok, hw, t⟩ := t
    have hdp := rp_dp 60 d v _ hsm o1.rp
    obtain ⟨c1, c2, c3, c4⟩ := okW_py d hok
    have c5 := (sm_plain 60 d hsm).2
    obtain ⟨a, ea⟩ : ∃ a, v = .ref a := by
      cases d with
      | tup ds => obtain ⟨a, vs, e, _⟩ := o1.rp; exact ⟨a, e⟩
      | lst ow ds => cases ow with
        | true => obtain ⟨a, vs, fp', e, _⟩ := o1.rp; exact ⟨a, e⟩
        | false => obtain ⟨a, vs, e, _⟩ := o1.rp; exact ⟨a, e⟩
      | _ => simp [isBox] at hb
    subst ea
    exact ⟨a, py d, e, hdp, c1, by omega, c2, c3, c5, vdone (d := .str (shw d)) g0 q ⟨rfl, rfl⟩ t⟩
  · exact t.elim
end TT

set_option Elab.async false
set_option linter.all false
set_option maxRecDepth 100000
set_option maxHeartbeats 1000000
namespace TT
open PySem PySem.Spec PyProof.Rows L2
/-! ### x += t, texts too -/
def ipX : TIp := fun x y H Q => ipI (fun i j => i + j) x y H Q ∨ ∃ a b : Str, x = .str a ∧ y = .str b ∧ a.length + b.length ≤ sizeLine ∧ Q (.str (a ++ b)) H
theorem ip_addX {X : Cx} : PIp X .Add ipX := fun pins s σ H x y v u Q I rx ry h => by
  rcases h with h | ⟨a, b, ex, ey, hl, q⟩
  · exact ip_add pins s σ H x y v u Q I rx ry h
  · subst ex ey
    obtain ⟨t1, e1⟩ := rx
    obtain ⟨t2, e2⟩ := ry
    subst e1 e2
    exact PySem.wpAny_inplaceOp_concat (T := "str") rfl rfl PySem.noI_str_add PySem.noFill_str_add PySem.seq_str_add (PyProof.Rows.call_str_add (fun t' tk => ⟨.str (a ++ b), H, I.kept fun _ _ h => h, ⟨_, rfl⟩, q⟩) hl)
section
variable {X : Cx} {W : WX} {G : Bg} {c : Nat}
def rAugX (i : Nat) (t : RM) : RS := fun P env => match env[i]? with
  | some (some (.int a)) => t env (fun d env' => match d with
    | .int b => P.nx (env'.set i (some (.int (a + b))))
    | _ => False) (fun x env' => P.ex x env')
  | some (some (.str a)) => t env (fun d env' => match d with
    | .str b => a.length + b.length ≤ sizeLine ∧ P.nx (env'.set i (some (.str (a ++ b))))
    | _ => False) (fun x env' => P.ex x env')
  | _ => False
theorem js_augX {i : Nat} {x : Str} {e : Expr} {t : RM} {pos p' : Pos} (hN : X.N.Nodup) (hi : X.N[i]? = some x) (hx : Loc X.env.scope x) (he : JM X W G c e t) (hf : X.fn x = true ∨ X.env.scope.names.lookup x = some .local := by first | exact .inl rfl | exact .inr rfl) :
    JS X W G c (.AugAssign (.Name x p') .Add e pos) (rAugX i t) := psImp (ps_aug hN hi hx he ip_addX hf) fun Dn σ H h => by
  obtain ⟨n, Z, env, F, P, l, s, t, qn, qb, qc, qr, qx⟩ := h
  unfold rAugX at t
  split at t
  · rename_i a h0
    obtain ⟨v0, fp0, e1, e2, rp0⟩ := s.at_ i _ h0
    have ev : v0 = .int a := rp0.1
    subst ev
    refine ⟨.int a, e1, n, Z, env, F, _, _, l, s, t, fun d v fp Z1 env1 F1 H1 s1 o1 ap st t1 => ?_, fun x cls da Z1 env1 F1 H1 e1 xr t1 => qx x cls da Z1 env1 σ H1 F1 e1 xr t1⟩
    split at t1
    · rename_i b
      have ev : v = .int b := o1.rp.1
      subst ev
      refine .inl ⟨a, b, rfl, rfl, qn Z1 _ _ H1 _ ⟨⟨st.keep, st.there, st.zz, st.zn, fun y m => st.fn y (List.mem_append_right _ (flat_set0 y m))⟩, s1.store (d := .int (a + b)) (v := .int (a + b)) (fp := []) (Ob.flat ⟨rfl, rfl⟩) (fun _ m => nomatch m) i⟩ t1⟩
    · exact t1.elim
  · rename_i a h0
    obtain ⟨v0, fp0, e1, e2, rp0⟩ := s.at_ i _ h0
    have ev : v0 = .str a := rp0.1
    subst ev
    refine ⟨.str a, e1, n, Z, env, F, _, _, l, s, t, fun d v fp Z1 env1 F1 H1 s1 o1 ap st t1 => ?_, fun x cls da Z1 env1 F1 H1 e1 xr t1 => qx x cls da Z1 env1 σ H1 F1 e1 xr t1⟩
    split at t1
    · rename_i b
      have ev : v = .str b := o1.rp.1
      subst ev
      refine .inr ⟨a, b, rfl, rfl, t1.1, qn Z1 _ _ H1 _ ⟨⟨st.keep, st.there, st.zz, st.zn, fun y m => st.fn y (List.mem_append_right _ (flat_set0 y m))⟩, s1.store (d := .str (a ++ b)) (v := .str (a ++ b)) (fp := []) (Ob.flat ⟨rfl, rfl⟩) (fun _ m => nomatch m) i⟩ t1.2⟩
    · exact t1.elim
  · exact t.elim
end
/-! ### xs[j] += k, rows[i][j] += k -/
def rGetL (X : Cx) : V → V → Hp → VK → Prop := fun o i H Q => ∃ (p : Addr) (xs : List V) (k : Int) (x : V), o = .ref p ∧ i = .int k ∧ H p = some (.lst xs) ∧ 0 ≤ k ∧ k < 2 ^ 63 ∧ xs[k.toNat]? = some x ∧ Q x H
theorem get_list {X : Cx} : PGet X (rGetL X) := fun pins s σ H o i ov iv Q I ro ri h => by
  obtain ⟨p, xs, k, x, eo, ei, hp, k0, k1, hx, q⟩ := h
  subst eo ei
  obtain ⟨its, n, hv, hg, hl⟩ := I.lst hp
  obtain rfl : ov = Value.ref p := ro
  obtain ⟨t, rfl⟩ := ri
  obtain ⟨u, hu, ru⟩ := hv.get hx
  exact PyProof.Rows.getItem_listL ⟨_, hg, rfl, n, rfl⟩ k0 k1 hu ⟨x, H, I, ru, q⟩
theorem ixN_nat {n k : Nat} (h : k < n) : ixN n (k : Int) = some k := by
  unfold ixN
  simp
  omega
theorem RpL.setI {K : PySem.W.Frag} {G : Bg} {Z : Zs} {H : Hp} {a z : Int} : ∀ (ds : List D) (vs : List V) (f : List Addr) (q : Nat), RpL K G Z H ds vs f → ds[q]? = some (.int a) → vs[q]? = some (.int a) ∧ RpL K G Z H (ds.set q (.int z)) (vs.set q (.int z)) f
  | [], vs, f, q, r, h => by simp at h
  | d :: ds, vs, f, 0, ⟨v, vs', f1, f2, e, r, rs, ef⟩, h => by
    have e0 : d = .int a := Option.some.inj h
    subst e0 e ef
    have ev : v = .int a := r.1
    have ef1 : f1 = [] := r.2
    subst ev ef1
    exact ⟨rfl, .int z, vs', [], f2, rfl, ⟨rfl, rfl⟩, rs, rfl⟩
  | d :: ds, vs, f, q + 1, ⟨v, vs', f1, f2, e, r, rs, ef⟩, h => by
    subst e ef
    obtain ⟨h1, h2⟩ := RpL.setI ds vs' f2 q rs h
    exact ⟨h1, v, vs'.set q (.int z), f1, f2, rfl, r, h2, rfl⟩
section
variable {K : PySem.W.Frag} {G : Bg} {n c : Nat} {Z : Zs} {H : Hp} {env : Ev} {σ : L2.St} {F : List (List Addr)}
theorem nest_set {ds es : List D} {i q q2 : Nat} {z0 z : Int} (s1 : Stt K G n Z H env σ F) (h1 : env[i]? = some (some (.lst true ds))) (hq : ds[q]? = some (.lst true es)) (h2 : es[q2]? = some (.int z0)) :
    ∃ a vs a0 us F2, σ[i]? = some (some (.ref a)) ∧ H a = some (.lst vs) ∧ vs.length = ds.length ∧ vs[q]? = some (.ref a0) ∧ H a0 = some (.lst us) ∧ us.length = es.length ∧ us[q2]? = some (.int z0) ∧
      Send K G n 0 Z H F.flatten Z (env.set i (some (.lst true (ds.set q (.lst true (es.set q2 (.int z))))))) σ (upd H a0 (.lst (us.set q2 (.int z)))) F2 := by
  obtain ⟨v1, fp1, e3, e4, rp1⟩ := s1.at_ i _ h1
  obtain ⟨a, vs, f, ev1, ha1, rl, ef⟩ := rp1
  subst ef ev1
  obtain ⟨v0, f0, fL, fR, hv0, r0, ef, put⟩ := RpL.pick ds vs f q _ rl hq
  obtain ⟨a0, us, f00, ev0, ha0, ru, ef0⟩ := r0
  subst ev0 ef0 ef
  obtain ⟨nd1, ap1⟩ := flat_drop F i _ e4 s1.nd
  have inF : ∀ b ∈ a :: (fL ++ ((a0 :: f00) ++ fR)), b ∈ F.flatten := memF e4
  have m0 : a0 ∈ a :: (fL ++ ((a0 :: f00) ++ fR)) := by simp
  have nd2 := List.nodup_cons.mp nd1
  have nd3 := List.nodup_append.mp nd2.2
  have nd4 := List.nodup_append.mp nd3.2.1
  have nd5 := List.nodup_cons.mp nd4.1
  have n1 : a0 ∉ fL := fun m => nd3.2.2 a0 m a0 (by simp) rfl
  have n2 : a0 ∉ fR := fun m => nd4.2.2 a0 List.mem_cons_self a0 m rfl
  have n4 : a0 ≠ a := fun e => nd2.1 (by rw [← e]; simp)
  have nZ : ¬ Z a0 := s1.nz a0 (inF a0 m0)
  obtain ⟨hu0, ru2⟩ := RpL.setI (z := z) es us f00 q2 ru h2
  have kR : ∀ (fx : List Addr), a0 ∉ fx → ∀ b u, H b = some u → (¬ Mut (some u) ∨ Z b ∨ b ∈ fx) → (upd H a0 (.lst (us.set q2 (.int z)))) b = some u := fun fx hx b u hb cs => by
    refine (upd_ne fun e => ?_).trans hb
    subst e
    rcases cs with cs | cs | cs
    · rw [ha0] at hb; cases hb; exact cs trivial
    · exact nZ cs
    · exact hx cs
  have thU : ∀ b u, H b = some u → ∃ u', (upd H a0 (.lst (us.set q2 (.int z)))) b = some u' := fun b u hb => by
    by_cases hba : b = a0
    · subst hba; exact ⟨_, upd_same⟩
    · exact ⟨u, by rw [upd_ne hba]; exact hb⟩
  have kU : ∀ b u, H b = some u → b ∉ [a0] → (upd H a0 (.lst (us.set q2 (.int z)))) b = some u := fun b u hb nb => by
    rw [upd_ne fun e => nb (by simp [e])]; exact hb
  have r2 : Rp K G Z (upd H a0 (.lst (us.set q2 (.int z)))) (.lst true (es.set q2 (.int z))) (.ref a0) (a0 :: f00) :=
    ⟨a0, us.set q2 (.int z), f00, rfl, upd_same, RpL.keep (fun _ z => z) _ _ _ (kR f00 nd5.1) ru2, rfl⟩
  have r3 := put _ _ _ (kR (fL ++ fR) fun m => (List.mem_append.mp m).elim n1 n2) r2
  have oN : Ob K G Z (upd H a0 (.lst (us.set q2 (.int z)))) (.lst true (ds.set q (.lst true (es.set q2 (.int z))))) (.ref a) (a :: (fL ++ ((a0 :: f00) ++ fR))) :=
    ⟨⟨a, vs, _, rfl, (upd_ne n4.symm).trans ha1, r3, rfl⟩, nd1, fun b m => s1.nz b (inF b m), fun b m => s1.nb b (inF b m)⟩
  have sN := s1.mutate (H' := upd H a0 (.lst (us.set q2 (.int z)))) (M := [a0]) h1 e3 e4 kU thU (fun b m => by
    have : b = a0 := by simpa using m
    rw [this]; exact m0) oN (fun b hb b' hb' => ap1 b hb b' hb')
  refine ⟨a, vs, a0, us, F.set i _, e3, ha1, rl.len, hv0, ha0, ru.len, hu0, ⟨⟨fun b u hb nb nA => kU b u hb fun m => ?_, thU, fun _ z => z, fun _ z => .inl z, fun b m => .inl ?_⟩, sN⟩⟩
  · have : b = a0 := by simpa using m
    subst this
    exact nA (inF b m0)
  · rcases flat_set F i _ b m with m | m
    · exact inF b m
    · exact m
end
def rAugL (i : Nat) (ix : Ev → Option Int) (k : Int) : RS := fun P env => match env[i]?, ix env with
  | some (some (.lst true ds)), some z => (0 ≤ z ∧ z < 2 ^ 63) ∧ (match ds[z.toNat]? with
    | some (.int a) => P.nx (env.set i (some (.lst true (ds.set z.toNat (.int (a + k))))))
    | _ => False)
  | _, _ => False
def rAugN (i : Nat) (ix iy : Ev → Option Int) (k : Int) : RS := fun P env => match env[i]?, ix env, iy env with
  | some (some (.lst true ds)), some z, some y => ((0 ≤ z ∧ z < 2 ^ 63) ∧ (0 ≤ y ∧ y < 2 ^ 63)) ∧ (match ds[z.toNat]? with
    | some (.lst true es) => (match es[y.toNat]? with
      | some (.int a) => P.nx (env.set i (some (.lst true (ds.set z.toNat (.lst true (es.set y.toNat (.int (a + k))))))))
      | _ => False)
    | _ => False)
  | _, _, _ => False
section
variable {X : Cx} {W : WX} {G : Bg} {o ie ie2 e : Expr} {pos tpos p1 : Pos}
theorem ixV_at {K : PySem.W.Frag} {n : Nat} {Z : Zs} {H : Hp} {env : Ev} {σ : L2.St} {F : List (List Addr)} (s : Stt K G n Z H env σ F) {j : Nat} {z : Int} (h : ixV j env = some z) : σ[j]? = some (some (.int z)) := by
  unfold ixV at h
  split at h
  · rename_i k' hj
    cases h
    obtain ⟨vj, fj, ej, _, rj⟩ := s.at_ j _ hj
    have evj : vj = .int z := rj.1
    rw [ej, evj]
  · cases h
theorem js_augL {i j : Nat} {k : Int} (ho : PE X o (tVar i)) (hi : PE X ie (tVar j)) (he : PE X e (tC (.int k)))
    (h : ∀ (ov iv new : Value), augStore ie ov iv new = (do
      holding [new, ov, iv] (setItem ov iv new)
      release [new, ov, iv] []
      pure Flow.next) := by intro _ _ _; rfl) :
    JS X W G 0 (.AugAssign (.Subscript o ie tpos) .Add e pos) (rAugL i (ixV j) k) := psImp (ps_augS ho hi get_list he ip_add set_list h) fun Dn σ H h => by
  obtain ⟨n, Z, env, F, P, l, s, t, qn, qb, qc, qr, qx⟩ := h
  unfold rAugL at t
  split at t
  · rename_i ds z hx hz
    obtain ⟨⟨z0, z1⟩, t⟩ := t
    obtain ⟨q, rfl⟩ := Int.eq_ofNat_of_zero_le z0
    rw [Int.toNat_natCast] at t
    split at t
    · rename_i a ha
      have hq : q < ds.length := (List.getElem?_eq_some_iff.mp ha).1
      have hj := ixV_at s hz
      obtain ⟨v0, fp0, e1, e2, rp0⟩ := s.at_ i _ hx
      obtain ⟨p, vs, f, ev, hp, rl, ef⟩ := rp0
      subst ev
      obtain ⟨hv, _⟩ := RpL.setI (z := 0) ds vs f q rl ha
      obtain ⟨p', vs', F2, es, hp', lv, sd⟩ := list_put (n := n) (c := 0) (d := .int (a + k)) (v := .int (a + k)) (fp := []) (A := F.flatten) (i := i) s Stp.refl hx (Ob.flat ⟨rfl, rfl⟩) (fun _ m => nomatch m) hq
      rw [e1] at es
      cases es
      rw [hp] at hp'
      cases hp'
      exact ⟨.ref p, e1, .int q, hj, p, vs, q, .int a, rfl, rfl, hp, z0, z1, by rw [Int.toNat_natCast]; exact hv, a, k, rfl, rfl, p, vs, q, q, rfl, rfl, hp, by rw [lv]; exact ixN_nat hq, qn Z _ σ _ F2 sd t⟩
    · exact t.elim
  · exact t.elim
theorem js_augN {i j m : Nat} {k : Int} (ho : PE X o (tVar i)) (hi : PE X ie (tVar j)) (hi2 : PE X ie2 (tVar m)) (he : PE X e (tC (.int k))) (hpl : PlainIx ie := by intro _ _; rfl)
    (h : ∀ (ov iv new : Value), augStore ie2 ov iv new = (do
      holding [new, ov, iv] (setItem ov iv new)
      release [new, ov, iv] []
      pure Flow.next) := by intro _ _ _; rfl) :
    JS X W G 0 (.AugAssign (.Subscript (.Subscript o ie p1) ie2 tpos) .Add e pos) (rAugN i (ixV j) (ixV m) k) := psImp (ps_augS (pe_ix ix_list ho hi hpl) hi2 get_list he ip_add set_list h) fun Dn σ H h => by
  obtain ⟨n, Z, env, F, P, l, s, t, qn, qb, qc, qr, qx⟩ := h
  unfold rAugN at t
  split at t
  · rename_i ds z y hx hz hy
    obtain ⟨⟨⟨z0, z1⟩, y0, y1⟩, t⟩ := t
    obtain ⟨q, rfl⟩ := Int.eq_ofNat_of_zero_le z0
    obtain ⟨q2, rfl⟩ := Int.eq_ofNat_of_zero_le y0
    rw [Int.toNat_natCast] at t
    split at t
    · rename_i es hes
      rw [Int.toNat_natCast] at t
      split at t
      · rename_i a ha
        have hq2 : q2 < es.length := (List.getElem?_eq_some_iff.mp ha).1
        obtain ⟨p, vs, p0, us, F2, e1, hp, lv, hv0, hp0, lu, hu, sd⟩ := nest_set (z := a + k) s hx hes ha
        exact ⟨.ref p, e1, .int q, ixV_at s hz, p, vs, q, .ref p0, rfl, rfl, SqL.of hp, atI_nat hv0, .int q2, ixV_at s hy, p0, us, q2, .int a, rfl, rfl, hp0, y0, y1, by rw [Int.toNat_natCast]; exact hu, a, k, rfl, rfl, p0, us, q2, q2, rfl, rfl, hp0, by rw [lu]; exact ixN_nat hq2, qn Z _ σ _ F2 sd t⟩
      · exact t.elim
    · exact t.elim
  · exact t.elim
end
end TT

set_option Elab.async false
set_option linter.all false
set_option maxRecDepth 100000
set_option maxHeartbeats 1000000
namespace TT
open PySem PySem.Spec PyProof.Rows L2
/-! ### xs[:-k], 'AB'.index(x) -/
theorem cut_hiN {xs : List V} {i : Int} (h : i < 0) : cutV xs none (some i) = xs.take (i + xs.length).toNat := by
  have e : HT.sIx xs.length xs.length (some i) = (i + xs.length).toNat := if_pos h
  unfold cutV
  rw [e, HT.sIx_none, List.drop_zero, Nat.sub_zero]
def gSlHiZ : D → D → (D → Prop) → Prop := fun x y Q => match x, y with
  | .lst _ ds, .int i => if i < 0 then Q (.lst true ((frzL ds).take (i + ds.length).toNat)) else 0 ≤ i ∧ Q (.lst true ((frzL ds).take i.toNat))
  | x, y => gSlHiX x y Q
def gSIx : D → D → (D → Prop) → Prop := fun x y Q => match x, y with
  | .str a, .str b => ∃ (i : Nat) (r : List Nat), PySem.Builtin.Str.occurrences a b 0 a.length 1 = i :: r ∧ Q (.int i)
  | _, _ => False
section
variable {X : Cx} {W : WX} {G : Bg} {c c1 c2 : Nat} {a b e o : Expr} {ta tb : RE} {pos p2 apos cpos : Pos}
theorem v_slHiZ : VOp2 X G (fun x y H Q => ∃ i, y = .int i ∧ (rSlL X.K x none (some i) H Q ∨ rSlS x none (some i) H Q)) gSlHiZ := by
  intro n Z H dx x fx dy y fy Q' Q g ox oy ap t q
  unfold gSlHiZ at t
  split at t
  · rename_i ow ds i
    split at t
    · rename_i hi
      obtain ⟨g2, o2, s2⟩ := ox.share g
      obtain ⟨l, vs, ev, hr, hz, rr, _⟩ := o2
      obtain ⟨ey, efy⟩ := oy.rp
      subst ev ey efy
      refine ⟨i, rfl, .inl ⟨l, vs, rfl, .inl (.inl hr), fun k hk => ?_⟩⟩
      rw [cut_hiN hi]
      have el : vs.length = ds.length := by
        have := rr.len
        rw [this, frzL_map, List.length_map]
      rw [el]
      have o3 : ObL X.K G (fun b => Z b ∨ b ∈ fx) H ((frzL ds).take (i + ds.length).toNat) (vs.take (i + ds.length).toNat) [] := ⟨rr.take _, List.nodup_nil, (fun _ m => nomatch m), (fun _ m => nomatch m)⟩
      refine q _ _ (k :: []) _ _ ?_ (g2.new hk) (ob_lst g2 o3 hk) t
      rw [List.append_nil]
      exact s2.trans (Stp.new (M := []) hk fun b m => .inr (by simpa using m)) (fun _ m => (nomatch m))
    · obtain ⟨j, e, r⟩ := v_slHi n Z H _ x fx _ y fy Q' Q g ox oy ap (show gSlHi (.lst ow ds) (.int i) Q' from t) q
      exact ⟨j, e, .inl r⟩
  · exact v_slHiX n Z H dx x fx dy y fy Q' Q g ox oy ap t q
theorem je_slHiZ (ha : JE X W G c1 a ta) (hb : JE X W G c2 b tb) : JE X W G (c1 + c2) (.Subscript a (.Slice none (some b) none p2) pos) (r2 ta tb gSlHiZ) :=
  peImp (pe_slice (sl_list.or sl_str) ha po_none (po_some hb)) (tOp_of v_slHiZ)
theorem v_six : VOp2 X G (fun x y H Q => (fun (x : V) (xs : List V) (H : Hp) (Q : VK) => ∃ a b i rest, x = .str a ∧ xs = [.str b] ∧ PySem.Builtin.Str.occurrences a b 0 a.length 1 = i :: rest ∧ Q (.int (i : Nat)) H) x [y] H Q) gSIx := by
  intro n Z H dx x fx dy y fy Q' Q g ox oy ap t q
  unfold gSIx at t
  split at t
  · rename_i z w
    obtain ⟨i, r, h, t⟩ := t
    have e1 : x = .str z := ox.rp.1
    have e2 : y = .str w := oy.rp.1
    exact ⟨z, w, i, r, e1, by rw [e2], h, vdone (d := .int i) g q ⟨rfl, rfl⟩ t⟩
  · exact t.elim
theorem je_sindex (ho : JE X W G c1 o ta) (he : JE X W G c2 e tb) (hb : attributeBase o "index" X.env (eval o X.env) = eval o X.env := by rfl) (hline : (apos.endLine == cpos.line) = true := by rfl) (hse : starEach [e] X.env = (false, eval e X.env) :: starEach [] X.env := by rfl)
    (hfew : ((backTo cpos (starEach [e] X.env)).all (fun x => !x.1) && (backToKw cpos (keywordEach [] X.env)).all (fun x => x.1.isSome) && decide (([e] : List Expr).length + ([] : List Keyword).length + (if ([] : List Keyword).isEmpty then 0 else 1) < 30)) = true := by rfl) :
    JE X W G (c1 + c2) (.Call (.Attribute o "index" apos) [e] [] cpos) (rMs1 ta tb gSIx) := je_ms1 PySem.F.slot_str_index PySem.F.type_str_index mt_sindex v_six ho he hb hline hse hfew
end
end TT

set_option Elab.async false
set_option linter.all false
set_option maxRecDepth 100000
set_option maxHeartbeats 1000000
namespace L2
open PySem PySem.Spec PyProof.Rows TT
/-! ### enumerate over a text, from k -/
def ItX (x : Str) (k : Int) : It where
  go := fun i _ => i < x.cps.size
  yld := fun i H v H' => ∃ T c, v = .ref T ∧ H T = none ∧ x.cps[i]? = some c ∧ H' = upd H T (.tup [.int (k + i), .str ⟨#[c]⟩])
  stop := fun i _ => i = x.cps.size
theorem turn_enumX {P : Program} {w : World} {K : PySem.W.Frag} {elts : List Expr} {kk : Nat} {tpos : Pos} (e it : Addr) (x : Str) (t : Tok) (k : Int) (ne : e ≠ it) :
    Turn P w K (.Tuple elts kk tpos) (ItX x k) [e, it] e (fun i h => (∃ old, IsEnum h e it (k + i) old) ∧ h.IsStrIter it (strIterType x) x t i) where
  mem := List.mem_cons_self
  obj := fun i h ⟨⟨old, h1⟩, o, h2, h3, h4⟩ b m => by
    rcases List.mem_cons.mp m with m | m
    · subst m
      exact ⟨_, h1, fun v z => nomatch z⟩
    · have : b = it := by simpa using m
      subst this
      exact ⟨o, h2, fun v z => by rw [h4] at z; cases z⟩
  keep := fun i h h' ⟨⟨old, h1⟩, o, h2, h3⟩ k => ⟨⟨old, k e List.mem_cons_self _ h1⟩, o, k it (by simp) _ h2, h3⟩
  item := fun X e1 e2 e3 calm i pins s σ H E I fp tn g => by
    subst e1 e2
    have hh := I.ok.hd calm
    have G := GoesN.enumFrom (elts := elts) (x1 := kk) (pos := tpos) k (Draws.text (prog := X.prog) (w := X.w) (A := X.A.in1) hh it x t) e ne (by simpa using ne) (by simp)
    refine G.goes i s _ E g tn fun v h' tk hY hS kp ht => ?_
    obtain ⟨T, t2, y, rfl, hT, ⟨c, u, hc, rfl⟩, hi⟩ := hY
    have fr : H T = none := HOk.fresh I.hok hT
    have kp' : ∀ (b : Addr) (o : Obj), b ∉ [e, it] → s.heap.get? b = some o → h'.get? b = some o := kp
    refine ⟨.ref T, upd H T (.tup [.int (k + i), .str ⟨#[c]⟩]), Inv.turnedNew I kp' (fun b m => fp b m) hT ?_, rfl, ⟨T, c, rfl, fr, hc, rfl⟩, ?_, fun b m => ?_⟩
    · unfold ObjOk
      exact ⟨by show 2 ≤ sizeLine; decide, _, .cons ⟨_, rfl⟩ (.cons ⟨_, rfl⟩ .nil), hi⟩
    · exact hS
    · rw [upd_ne fun z => ?_]
      · exact (fp b m).1
      · subst z
        obtain ⟨o, ho⟩ := (show ∃ o, s.heap.get? b = some o from by
          rcases List.mem_cons.mp m with m | m
          · subst m; exact ⟨_, tn.1.choose_spec⟩
          · have : b = it := by simpa using m
            subst this
            obtain ⟨o, h2, _⟩ := tn.2
            exact ⟨o, h2⟩)
        have lb : b < s.heap.objs.size := Heap.lt_size ho
        exact Nat.lt_irrefl _ (Nat.lt_of_lt_of_le lb hT)
  done := fun X e1 e2 e3 calm i pins s σ H E I fp tn g => by
    subst e1 e2
    have hh := I.ok.hd calm
    have G := GoesN.enumFrom (elts := elts) (x1 := kk) (pos := tpos) k (Draws.text (prog := X.prog) (w := X.w) (A := X.A.in1) hh it x t) e ne (by simpa using ne) (by simp)
    have g : i = x.cps.size := g
    subst g
    exact G.stops s _ E tn fun h' tk kp ht => Inv.turnedL I kp fp
  self := fun A i s Q E tn q => wpAny_pyIter_enum tn.1.choose_spec q
theorem keep_enum : ∀ h : Heap, True → ∃ k, (k = Keeper.frame ∨ k = Keeper.machine ∨ k = Keeper.boundFrame) ∧ PySem.W.Looks M h (keeperOf (.type "enumerate")) k := fun h _ => ⟨.machine, .inr (.inl rfl), fun A Q E s _ q => wpAny_pure q⟩
section
variable {X : Cx} {e : Expr} {te : TE} {p pos tpos : Pos} {elts : List Expr} {kk : Nat}
theorem enum_end {pins : List (Addr × Obj)} {σ : St} {H : Hp} {s : Shared} {R : It → Hp → Prop} {x : Str} {t : Tok} {k : Int} (I : Inv X pins σ H s) (r : R (ItX x k) H) (h' : Heap) (ie : IsEnum h' (s.heap.objs.size + 1) s.heap.objs.size k Value.none)
    (hi : h'.IsStrIter s.heap.objs.size (strIterType x) x t 0) (kp : ∀ (b : Addr) (o : Obj), s.heap.get? b = some o → h'.get? b = some o) :
    wpAny (model X.prog X.w) X.A (pyIter (.ref (s.heap.objs.size + 1))) (PIE X pins σ (.Tuple elts kk tpos) R) X.xe { heap := h', gens := s.gens, drawn := s.drawn, toks := s.toks, os := s.os } := by
  refine wpAny_pyIter_enum ie ⟨_, [s.heap.objs.size + 1, s.heap.objs.size], _, ItX x k, H, rfl, I.kept kp, turn_enumX _ _ x t k (Nat.succ_ne_self _), ⟨⟨_, by rw [show k + ((0 : Nat) : Int) = k from Int.add_zero k]; exact ie⟩, hi⟩, fun b m => ?_, r⟩
  have hb : s.heap.objs.size ≤ b := by
    rcases List.mem_cons.mp m with m | m
    · rw [m]; exact Nat.le_succ _
    · have : b = s.heap.objs.size := by simpa using m
      rw [this]; exact Nat.le_refl _
  exact I.fpOk hb (HOk.fresh I.hok hb)
theorem pi_enumX (hg : Gl X "enumerate") (hm : X.mg "enumerate" = none) (he : PE X e te)
    (hb : backTo pos (starEach [e] X.env) = (false, eval e X.env) :: backTo pos (starEach [] X.env) := by rfl) (hp : ((backTo pos (starEach [e] X.env)).any fun x => x.1) = false := by rfl) (hse : starEach [e] X.env = (false, eval e X.env) :: starEach [] X.env := by rfl) :
    PI X (.Tuple elts kk tpos) (.Call (.Name "enumerate" p) [e] [] pos) (fun σ H R => te σ H fun v H1 => ∃ x, v = .str x ∧ R (ItX x 0) H1) := by
  refine ⟨fun pins s σ H R I h => wpAny_Call_Name_kw (ld_blt I hg hm bt_enumerate ?_)⟩
  refine PySem.W.callWith_of (P := fun _ => True) (by rw [hp]; rfl) keep_enum ?_
  rw [hb]
  refine evalArgs_kwB rfl ?_
  rw [← hb]
  refine wpAny_mono ((pa_cons he pa_nil hse).run pos pins s σ H (fun vs H1 => match vs with
    | [v] => ∃ x, v = .str x ∧ R (ItX x 0) H1
    | _ => False) I h) (fun us s1 h1 => ?_) (fun _ _ h => h)
  obtain ⟨vs, H1, I1, hv, q⟩ := h1
  split at q
  · rename_i v
    obtain ⟨x, rfl, q⟩ := q
    obtain ⟨u, hu, ru⟩ := vals1 hv
    obtain ⟨t, ru⟩ := ru
    subst hu ru
    refine wpAny_pure ⟨trivial, ?_⟩
    exact call_enumerate_str fun h' ie hi hs kp => enum_end I1 q h' ie hi kp
  · exact q.elim
theorem pi_enumXK {kws : List Keyword} {tk : TA} (hg : Gl X "enumerate") (hm : X.mg "enumerate" = none) (he : PE X e te) (hk : PK X kws tk)
    (hb : backTo pos (starEach [e] X.env) = (false, eval e X.env) :: backTo pos (starEach [] X.env) := by rfl) (hp : ((backTo pos (starEach [e] X.env)).any fun x => x.1) = false := by rfl) (hse : starEach [e] X.env = (false, eval e X.env) :: starEach [] X.env := by rfl)
    (h1 : ((backToKw pos (keywordEach kws X.env)).all fun x => x.1.isSome) = true := by rfl) (h2 : ((backToKw pos (keywordEach kws X.env)).any fun x => x.1.isNone) = false := by rfl) (h3 : List.filterMap (fun x => x.1) (backToKw pos (keywordEach kws X.env)) = [("start" : Str)] := by rfl) :
    PI X (.Tuple elts kk tpos) (.Call (.Name "enumerate" p) [e] kws pos) (fun σ H R => te σ H fun v H1 => tk σ H1 fun zs H2 => ∃ x k, v = .str x ∧ zs = [.int k] ∧ (-2 ^ 63 ≤ k ∧ k < 2 ^ 63) ∧ R (ItX x k) H2) := by
  refine ⟨fun pins s σ H R I h => wpAny_Call_Name_kw (ld_blt I hg hm bt_enumerate ?_)⟩
  refine PySem.W.callWith_of (P := fun _ => True) (by rw [hp, h2]; rfl) keep_enum ?_
  rw [hb]
  refine evalArgs_kwB h1 ?_
  rw [← hb]
  refine wpAny_mono ((pa_cons he pa_nil hse).run pos pins s σ H (fun vs H1 => match vs with
    | [v] => tk σ H1 fun zs H2 => ∃ x k, v = .str x ∧ zs = [.int k] ∧ (-2 ^ 63 ≤ k ∧ k < 2 ^ 63) ∧ R (ItX x k) H2
    | _ => False) I h) (fun us s1 h1 => ?_) (fun _ _ h => h)
  obtain ⟨vs, H1, I1, hv, q⟩ := h1
  split at q
  · rename_i v
    refine wpAny_mono (hk.run pos pins s1 σ H1 _ I1 q) (fun ws s2 h2 => ?_) (fun _ _ h => h)
    obtain ⟨zs, H2, I2, hz, x, k, rfl, rfl, ⟨k0, k1⟩, r⟩ := h2
    obtain ⟨u, hu, ru⟩ := vals1 hv
    obtain ⟨t, ru⟩ := ru
    obtain ⟨u2, hu2, ru2⟩ := vals1 hz
    obtain ⟨t2, ru2⟩ := ru2
    subst hu ru hu2 ru2
    refine ⟨trivial, ?_⟩
    rw [h3]
    exact enum_begins_start (begins_text x t) trivial k0 k1 fun h' ie hi hs kp => enum_end I2 r h' ie ⟨_, hi, rfl, rfl⟩ kp
  · exact q.elim
end
end L2

set_option Elab.async false
set_option linter.all false
set_option maxRecDepth 100000
set_option maxHeartbeats 1000000
namespace TT
open PySem PySem.Spec PyProof.Rows L2
/-! ### for i, x in enumerate(text), enumerate(text, start=k) -/
def iEnuT (k : Nat) : D → (List D → Prop) → Prop := fun d Q => match d with
  | .str x => Q (enumD k (strD x))
  | _ => False
def riEnuT (k : Nat) (te : RE) : RI := fun env Q E => te env (fun d => iEnuT k d Q) E
section
variable {X : Cx} {W : WX} {G : Bg} {c : Nat} {e : Expr} {pos p tpos : Pos} {elts : List Expr} {kk : Nat} {ta : RE}
theorem strD_len (x : Str) : (strD x).length = x.cps.size := by unfold strD; rw [List.length_map, Array.length_toList]
theorem wlk_enumX {K : PySem.W.Frag} {Z : Zs} {H : Hp} {x : Str} {k : Nat} : Wlk K G (ItX x (k : Int)) (enumD k (strD x)) Z H where
  go := fun Z2 H2 i l hi => by
    rw [enumD_len, strD_len] at hi
    exact hi
  yl := fun Z2 H2 n i v H' d l g hd hy => by
    obtain ⟨T, ch, e, hT, hc, eH⟩ := hy
    subst e eH
    obtain ⟨y, hy, ed⟩ := enumD_at k _ i d hd
    subst ed
    have : y = .str ⟨#[ch]⟩ := by
      unfold strD at hy
      rw [List.getElem?_map, Array.getElem?_toList, hc] at hy
      exact (Option.some.inj hy).symm
    subst this
    exact ⟨Stp.fresh hT, g.new hT, T, _, rfl, upd_same, .int (k + i : Int), [_], [], [], rfl, ⟨by push_cast; rfl, rfl⟩, RpL.one ⟨rfl, rfl⟩, rfl⟩
  st := fun Z2 H2 l => by
    show _ = x.cps.size
    rw [enumD_len, strD_len]
theorem ji_enumT (hg : Gl X "enumerate") (hm : X.mg "enumerate" = none) (ha : JE X W G c e ta)
    (hb : backTo pos (starEach [e] X.env) = (false, eval e X.env) :: backTo pos (starEach [] X.env) := by rfl) (hp : ((backTo pos (starEach [e] X.env)).any fun x => x.1) = false := by rfl) (hse : starEach [e] X.env = (false, eval e X.env) :: starEach [] X.env := by rfl) :
    JI X W G c (.Tuple elts kk tpos) (.Call (.Name "enumerate" p) [e] [] pos) (riEnuT 0 ta) := piImp (pi_enumX hg hm ha hb hp hse) fun σ H R h => by
  obtain ⟨n, Z, env, Q', E', pr, w, t, q, x⟩ := h
  refine ⟨n, Z, env, _, E', pr, w, t, fun d v fp Z1 H1 r1 o1 t1 => ?_, x⟩
  unfold iEnuT at t1
  split at t1
  · rename_i z
    exact ⟨z, o1.rp.1, q _ _ _ H1 r1.nofp wlk_enumX t1⟩
  · exact t1.elim
theorem ji_enumK {kws : List Keyword} {k : Nat} (hg : Gl X "enumerate") (hm : X.mg "enumerate" = none) (ha : JE X W G c e ta) (hk : PK X kws (tCons (tC (.int k)) tNil)) (hk2 : (k : Int) < 2 ^ 63)
    (hb : backTo pos (starEach [e] X.env) = (false, eval e X.env) :: backTo pos (starEach [] X.env) := by rfl) (hp : ((backTo pos (starEach [e] X.env)).any fun x => x.1) = false := by rfl) (hse : starEach [e] X.env = (false, eval e X.env) :: starEach [] X.env := by rfl)
    (h1 : ((backToKw pos (keywordEach kws X.env)).all fun x => x.1.isSome) = true := by rfl) (h2 : ((backToKw pos (keywordEach kws X.env)).any fun x => x.1.isNone) = false := by rfl) (h3 : List.filterMap (fun x => x.1) (backToKw pos (keywordEach kws X.env)) = [("start" : Str)] := by rfl) :
    JI X W G c (.Tuple elts kk tpos) (.Call (.Name "enumerate" p) [e] kws pos) (riEnuT k ta) := piImp (pi_enumXK hg hm ha hk hb hp hse h1 h2 h3) fun σ H R h => by
  obtain ⟨n, Z, env, Q', E', pr, w, t, q, x⟩ := h
  refine ⟨n, Z, env, _, E', pr, w, t, fun d v fp Z1 H1 r1 o1 t1 => ?_, x⟩
  unfold iEnuT at t1
  split at t1
  · rename_i z
    exact ⟨z, k, o1.rp.1, rfl, ⟨by omega, hk2⟩, q _ _ _ H1 r1.nofp wlk_enumX t1⟩
  · exact t1.elim
end
end TT

set_option Elab.async false
set_option linter.all false
set_option maxRecDepth 100000
set_option maxHeartbeats 1000000
namespace TT
open PySem PySem.Spec PyProof.Rows L2
/-! ### {k1: v1, k2: v2}[e], written texts -/
def gMenu (k1 v1 k2 v2 : Str) (x : D) (Q : D → Prop) : Prop := match x with
  | .str k => if k = k1 then Q (.str v1) else if k = k2 then Q (.str v2) else False
  | _ => False
def rMenu (k1 v1 k2 v2 : Str) (te : RE) : RE := fun env Q E => te env (fun x => gMenu k1 v1 k2 v2 x Q) E
theorem merge2 (k1 k2 : Str) (a b : V) (h : k1 ≠ k2) : mergeK [] [((.inr k1 : Key), a), (.inr k2, b)] = [(.inr k1, a), (.inr k2, b)] := by
  have h2 : ¬ (Sum.inr k1 : Key) = Sum.inr k2 := fun e => h (Sum.inr.inj e)
  unfold mergeK
  simp [putK, h2]
section
variable {X : Cx} {W : WX} {G : Bg} {c : Nat} {e : Expr} {te : RE} {pos pos2 : Pos} {a1 a2 b1 b2 : Expr}
theorem je_menu {k1 v1 k2 v2 : Str} (hu : X.A.units + 65 < cLine) (hk : k1 ≠ k2) (ha1 : PE X a1 (tC (.str k1))) (hb1 : PE X b1 (tC (.str v1))) (ha2 : PE X a2 (tC (.str k2))) (hb2 : PE X b2 (tC (.str v2))) (he : JE X W G c e te) (hs : NoSl e := by intro _ _; rfl) :
    JE X W G c (.Subscript (.Dict [some a1, some a2] [b1, b2] pos) e pos2) (rMenu k1 v1 k2 v2 te) := by
  refine peImp (pe_dget (by omega) (pe_disp (pps_cons ha1 hb1 (pps_cons ha2 hb2 pps_nil)) rfl rfl (by simp) (by simp)) he hs) fun σ H Q h => ?_
  obtain ⟨n, Z, env, Q', E', pr, w, t, q, x⟩ := h
  intro p hp
  have nbp : ¬ inB G p := fun i => by
    obtain ⟨o, e⟩ := pr.gd.bag.tracked i
    rw [hp] at e; cases e
  refine ⟨upd_same, [(.inr k1, .str v1), (.inr k2, .str v2)], rfl, by simp, ?_⟩
  rw [merge2 _ _ _ _ hk, upd_upd]
  have s0 : Stp G [] Z H [] Z (upd H p (.dK [(.inr k1, .str v1), (.inr k2, .str v2)])) [p] := Stp.new hp fun a m => .inr (by simpa using m)
  refine ⟨n, Z, env, _, E', ⟨pr.gd.new hp, pr.le⟩, w.step pr.gd s0, t, fun d v fp Z1 H1 r1 o1 t1 => ?_, fun y cls da Z1 H1 r xr e1 => x y cls da Z1 H1 ⟨s0.drop.trans r.st (fun a m => nomatch m), r.gd⟩ xr e1⟩
  have hp1 := r1.st.keep p _ upd_same nbp (fun m => nomatch m)
  have rs : Rs X.K G n c Z H Z1 H1 [] := ⟨s0.drop.trans r1.nofp.st (fun a m => nomatch m), r1.gd⟩
  unfold gMenu at t1
  split at t1
  · rename_i k
    have ev : v = .str k := o1.rp.1
    split at t1
    · rename_i h1
      refine ⟨p, .str v1, rfl, .inl ⟨_, .inr k, .inl hp1, ev, ?_⟩, q (.str v1) _ [] Z1 H1 rs (Ob.flat ⟨rfl, rfl⟩) t1⟩
      subst h1
      unfold valV
      simp
    · rename_i h1
      split at t1
      · rename_i h2
        refine ⟨p, .str v2, rfl, .inl ⟨_, .inr k, .inl hp1, ev, ?_⟩, q (.str v2) _ [] Z1 H1 rs (Ob.flat ⟨rfl, rfl⟩) t1⟩
        subst h2
        have h3 : ¬ (Sum.inr k1 : Key) = Sum.inr k := fun e => hk (Sum.inr.inj e)
        unfold valV
        simp [h3]
      · exact t1.elim
  · exact t1.elim
end
end TT

set_option Elab.async false
set_option linter.all false
set_option maxRecDepth 100000
set_option maxHeartbeats 1000000
namespace TT
open PySem PySem.Spec PyProof.Rows L2
/-! ### x, y, z = a, b, c -/
def rPar3 (i j m : Nat) (ms : List Bool) (ta : RA) : RS := fun P env => ta (mask ms env) (fun ds => match ds with
  | [a, b, c] => P.nx ((((aft ms env (.tup [a, b, c])).set i (some a)).set j (some b)).set m (some c))
  | _ => False) (fun x => P.ex x (frzS ms env))
section
variable {X : Cx} {W : WX} {G : Bg} {c : Nat} {pos : Pos}
theorem js_par3 {i j m : Nat} {x y z : Str} {a b d : Expr} {ta : RA} {px py pz pt : Pos} {kt k2 : Nat} {pt2 : Pos} (ms : List Bool) (hc : X.calm = true) (hN : X.N.Nodup) (hi : X.N[i]? = some x) (hj : X.N[j]? = some y) (hm : X.N[m]? = some z) (hij : i ≠ j) (him : i ≠ m) (hjm : j ≠ m)
    (hx : X.env.scope.names.lookup x = some .local) (hy : X.env.scope.names.lookup y = some .local) (hz : X.env.scope.names.lookup z = some .local) (ha : JA X W G c [a, b, d] ta)
    (hw : swappedStores [.Tuple [.Name x px, .Name y py, .Name z pz] kt pt] (.Tuple [a, b, d] k2 pt2) X.env = pure (some [x, y, z]))
    (hs : swapsWithSole [.Tuple [.Name x px, .Name y py, .Name z pz] kt pt] (.Tuple [a, b, d] k2 pt2) pos.line X.env = pure false := by rfl) :
    JS X W G c (.Assign [.Tuple [.Name x px, .Name y py, .Name z pz] kt pt] (.Tuple [a, b, d] k2 pt2) pos) (rPar3 i j m ms ta) := psImp (ps_par3 hc hN hi hj hm hij him hjm hx hy hz ha hw hs) fun Dn σ H h => by
  obtain ⟨n, Z, env, F, P, l, s, t, qn, qb, qc, qr, qx⟩ := h
  obtain ⟨g, w⟩ := s.view ms
  refine ⟨n, _, mask ms env, _, _, ⟨g, l⟩, w, t, fun ds vs fp Z1 H1 r1 o1 t1 => ?_, fun y cls da Z1 H1 r1 xr e1 => qx y cls da Z1 _ σ H1 _ (s.fails r1) xr e1⟩
  split at t1
  · rename_i d1 d2 d3
    obtain ⟨Z2, F2, s2, o2, ap, st⟩ := s.afterL r1 o1
    obtain ⟨v1, us, f1, f2, e, ef, oa, ob, ap2⟩ := o2.split
    obtain ⟨v2, us2, f3, f4, e', ef', ob2, oc, ap3⟩ := ob.split
    obtain ⟨v3, us3, f5, f6, e'', ef'', oc2, on, ap4⟩ := oc.split
    have e2 : us3 = [] := on.rp.1
    have e3 : f6 = [] := on.rp.2
    subst e2 e3 ef ef' ef''
    refine ⟨v1, v2, v3, by rw [e, e', e''], ?_⟩
    have s3 := s2.store oa (fun a ha => ap a (List.mem_append_left _ ha)) i
    have s4 := s3.store ob2 (fun a ha b hb => by
      rcases flat_set F2 i f1 b hb with z | z
      · exact fun e => ap2 b z a (List.mem_append_left _ ha) e.symm
      · exact ap a (List.mem_append_right _ (List.mem_append_left _ ha)) b z) j
    have s5 := s4.store oc2 (fun a ha b hb => by
      rcases flat_set _ j f3 b hb with z | z
      · exact fun e => ap3 b z a (List.mem_append_left _ ha) e.symm
      · rcases flat_set F2 i f1 b z with z | z
        · exact fun e => ap2 b z a (List.mem_append_right _ (List.mem_append_left _ ha)) e.symm
        · exact ap a (List.mem_append_right _ (List.mem_append_right _ (List.mem_append_left _ ha))) b z) m
    refine qn Z2 _ _ H1 _ ⟨⟨st.keep, st.there, st.zz, st.zn, fun a m' => st.fn a ?_⟩, s5⟩ t1
    rcases flat_set _ m f5 a m' with z | z
    · exact List.mem_append_left _ (List.mem_append_right _ (List.mem_append_right _ (List.mem_append_left _ z)))
    · rcases flat_set _ j f3 a z with z | z
      · exact List.mem_append_left _ (List.mem_append_right _ (List.mem_append_left _ z))
      · rcases flat_set _ i f1 a z with z | z
        · exact List.mem_append_left _ (List.mem_append_left _ z)
        · exact List.mem_append_right _ z
  · exact t1.elim
end
end TT

set_option Elab.async false
set_option linter.all false
set_option maxRecDepth 100000
set_option maxHeartbeats 1000000
namespace TT
open PySem PySem.Spec PyProof.Rows L2
/-! ### a, b = a list -/
def gTpL (n : Nat) (gs : RGs) : RG := fun d env Q => match d with
  | .lst _ ds => ds.length = n ∧ gs ds env Q
  | _ => False
section
variable {X : Cx} {G : Bg} {pos : Pos}
theorem jg_tupL {es : List Expr} {k n : Nat} {gs : RGs} {ks : List Nat} (hc : X.calm = true) (h : JGs X G ks es gs) (hn : (assignEach es X.env).length = n := by rfl) (hst : (assignEach es X.env).findIdx? (·.1) = none := by rfl) : JG X G ks (.Tuple es k pos) (gTpL n gs) := pgImp (pg_unl hc h hn hst) fun v σ H Q h => by
  obtain ⟨m, Z, env, F, d, fp, Q', s, o, ap, t, q⟩ := h
  unfold gTpL at t
  split at t
  · rename_i ow ds
    obtain ⟨a, vs, f', e, hr, ro, sub⟩ : ∃ a vs f', v = .ref a ∧ H a = some (.lst vs) ∧ ObL X.K G Z H ds vs f' ∧ ∀ b ∈ f', b ∈ fp := by
      cases ow with
      | true =>
        obtain ⟨a, vs, f', e, hr, r, ef⟩ := o.rp
        subst ef
        exact ⟨a, vs, f', e, hr, ⟨r, (List.nodup_cons.mp o.nd).2, fun b m => o.nz b (List.mem_cons_of_mem _ m), fun b m => o.nb b (List.mem_cons_of_mem _ m)⟩, fun b m => List.mem_cons_of_mem _ m⟩
      | false =>
        obtain ⟨a, vs, e, hr, hz, r, ef⟩ := o.rp
        exact ⟨a, vs, [], e, hr, ⟨r, List.nodup_nil, (fun _ m => nomatch m), (fun _ m => nomatch m)⟩, fun _ m => nomatch m⟩
    exact ⟨a, vs, e, SqL.of hr, by rw [ro.rp.len]; exact t.1, m, Z, env, F, ds, f', Q', s, ro, fun b hb => ap b (sub b hb), t.2, fun env' σ' F' s' sb kp => q env' σ' F' s' (fun b m => (sb b m).elim (fun m => .inl (sub b m)) .inr) kp⟩
  · exact t.elim
end
end TT

set_option Elab.async false
set_option linter.all false
set_option maxRecDepth 100000
set_option maxHeartbeats 1000000
namespace TT
open PySem PySem.Spec PyProof.Rows L2
/-! ### a dict locked and unlocked -/
structure Relk (a : Addr) (kvs : List (List Key × V)) (H H' : Hp) : Prop where
  same : ∀ b, b ≠ a → H' b = H b
  was : Rd H a (.dT kvs)
  is : Rd H' a (.dT kvs)
section
variable {K : PySem.W.Frag} {G : Bg} {Z : Zs} {H H' : Hp} {a : Addr} {kvs : List (List Key × V)}
theorem Relk.ne (k : Relk a kvs H H') {b : Addr} {o : HO} (e : H b = some o) (n : ∀ k, o ≠ .dT k) (n2 : ∀ o' k, o ≠ .frz o' (.dT k)) : b ≠ a := fun z => by
  subst z
  rcases k.was with h | ⟨o', h⟩
  · rw [e] at h; cases h; exact n _ rfl
  · rw [e] at h; cases h; exact n2 _ _ rfl
theorem Relk.go (k : Relk a kvs H H') {b : Addr} {o : HO} (e : H b = some o) (n : ∀ k, o ≠ .dT k) (n2 : ∀ o' k, o ≠ .frz o' (.dT k)) : H' b = some o := by
  rw [k.same b (k.ne e n n2)]; exact e
mutual
theorem Rp.relk (k : Relk a kvs H H') : ∀ (d : D) (v : V) (fp : List Addr), a ∉ fp → Rp K G Z H d v fp → Rp K G Z H' d v fp
  | .non, v, fp, n, h => h
  | .bl b, v, fp, n, h => h
  | .int i, v, fp, n, h => h
  | .str x, v, fp, n, h => h
  | .bag, v, fp, n, h => h
  | .scr ns, v, fp, n, ⟨⟨b, e, s⟩, ef⟩ => ⟨⟨b, e, s.keep fun o h => k.go h (fun _ z => nomatch z) (fun _ _ z => nomatch z)⟩, ef⟩
  | .exc b dd d, v, fp, n, ⟨e, ef, u, h, r⟩ => by
    subst ef
    exact ⟨e, rfl, u, k.go h (fun _ z => nomatch z) (fun _ _ z => nomatch z), Rp.relk k d u [] n r⟩
  | .err cx d, v, fp, n, ⟨b, C, dd, u, e, c, s, z, h, r, ef⟩ => by
    subst ef
    exact ⟨b, C, dd, u, e, c, k.go s (fun _ z => nomatch z) (fun _ _ z => nomatch z), z, k.go h (fun _ z => nomatch z) (fun _ _ z => nomatch z), Rp.relk k d u [] n r, rfl⟩
  | .tup ds, v, fp, n, ⟨b, vs, e, s, r⟩ => ⟨b, vs, e, k.go s (fun _ z => nomatch z) (fun _ _ z => nomatch z), RpL.relk k ds vs fp n r⟩
  | .lst true ds, v, fp, n, ⟨b, vs, fp', e, s, r, ef⟩ => by
    subst ef
    exact ⟨b, vs, fp', e, k.go s (fun _ z => nomatch z) (fun _ _ z => nomatch z), RpL.relk k ds vs fp' (fun m => n (List.mem_cons_of_mem _ m)) r, rfl⟩
  | .lst false ds, v, fp, n, ⟨b, vs, e, s, z, r, ef⟩ => by
    subst ef
    exact ⟨b, vs, e, k.go s (fun _ z => nomatch z) (fun _ _ z => nomatch z), z, RpL.relk k ds vs [] n r, rfl⟩
  | .dct true ks ds, v, fp, n, ⟨b, vs, fp', e, s, l, r, ef⟩ => by
    subst ef
    exact ⟨b, vs, fp', e, k.go s (fun _ z => nomatch z) (fun _ _ z => nomatch z), l, RpL.relk k ds vs fp' (fun m => n (List.mem_cons_of_mem _ m)) r, rfl⟩
  | .dct false ks ds, v, fp, n, ⟨b, vs, e, s, l, z, r, ef⟩ => by
    subst ef
    exact ⟨b, vs, e, k.go s (fun _ z => nomatch z) (fun _ _ z => nomatch z), l, z, RpL.relk k ds vs [] n r, rfl⟩
  | .dcT true ks ds, v, fp, n, ⟨b, vs, fp', e, s, l, r, ef⟩ => by
    subst ef
    refine ⟨b, vs, fp', e, ?_, l, RpL.relk k ds vs fp' (fun m => n (List.mem_cons_of_mem _ m)) r, rfl⟩
    rw [k.same b fun z => n (by rw [z]; exact List.mem_cons_self)]
    exact s
  | .dcT false ks ds, v, fp, n, ⟨b, vs, e, s, l, z, r, ef⟩ => by
    subst ef
    refine ⟨b, vs, e, ?_, l, z, RpL.relk k ds vs [] n r, rfl⟩
    by_cases hb : b = a
    · subst hb
      have : ks.zip vs = kvs := by
        rcases s with s | ⟨o1, s⟩ <;> rcases k.was with w | ⟨o2, w⟩ <;> rw [s] at w <;> cases w <;> rfl
      rw [this]
      exact k.is
    · exact rdKeep s fun o h => by rw [k.same b hb]; exact h
theorem RpL.relk (k : Relk a kvs H H') : ∀ (ds : List D) (vs : List V) (fp : List Addr), a ∉ fp → RpL K G Z H ds vs fp → RpL K G Z H' ds vs fp
  | [], vs, fp, n, h => h
  | d :: ds, vs, fp, n, ⟨v, vs', f1, f2, e, r, rs, ef⟩ => by
    subst ef
    exact ⟨v, vs', f1, f2, e, Rp.relk k d v f1 (fun m => n (List.mem_append_left _ m)) r, RpL.relk k ds vs' f2 (fun m => n (List.mem_append_right _ m)) rs, rfl⟩
end
theorem Gd.relk {n : Nat} (k : Relk a kvs H H') (g : Gd G n Z H) (z : Z a) : Gd G n Z H' :=
  ⟨g.bag.keep fun b i => k.same b fun e => g.nz a z (e ▸ i), g.nz, fun b zb => by
    by_cases e : b = a
    · subst e
      rcases k.is with h | ⟨o, h⟩ <;> exact ⟨_, h⟩
    · rw [k.same b e]; exact g.tr b zb⟩
theorem Stt.relk {n : Nat} {env : Ev} {σ : L2.St} {F : List (List Addr)} (k : Relk a kvs H H') (s : Stt K G n Z H env σ F) (z : Z a) : Stt K G n Z H' env σ F :=
  ⟨s.gd.relk k z, s.len, s.lenF, fun i d h => by
    obtain ⟨v, fp, e1, e2, r⟩ := s.at_ i d h
    exact ⟨v, fp, e1, e2, Rp.relk k d v fp (fun m => s.nz a (memF e2 a m) z) r⟩, s.nd, s.nz, s.nb, fun b m => by
    rw [k.same b fun e => s.nz b m (e ▸ z)]; exact s.mt b m⟩
theorem Relk.lk (h : H a = some (.dT kvs)) (od : Obj) : Relk a kvs H (upd H a (.frz od (.dT kvs))) := ⟨fun b e => upd_ne e, .inl h, .inr ⟨od, upd_same⟩⟩
theorem Relk.ulk {od : Obj} (h : H a = some (.frz od (.dT kvs))) : Relk a kvs H (upd H a (.dT kvs)) := ⟨fun b e => upd_ne e, .inr ⟨od, h⟩, .inl upd_same⟩
theorem Stp.unlk {A A' : List Addr} {Z' : Zs} {H2 : Hp} {od : Obj} (h : H a = some (.dT kvs)) (z : Z a) (na : a ∉ A) (nb : ¬ inB G a) (s : Stp G A Z (upd H a (.frz od (.dT kvs))) A Z' H2 A') :
    H2 a = some (.frz od (.dT kvs)) ∧ Stp G A Z H A Z' (upd H2 a (.dT kvs)) A' := by
  refine ⟨s.keep a _ upd_same nb na, ⟨fun b o e nb' nm => ?_, fun b o e => ?_, s.zz, fun b zb => ?_, fun b m => ?_⟩⟩
  · by_cases eb : b = a
    · subst eb; rw [h] at e; cases e; exact upd_same
    · rw [upd_ne eb]; exact s.keep b o (by rw [upd_ne eb]; exact e) nb' nm
  · by_cases eb : b = a
    · subst eb; exact ⟨_, upd_same⟩
    · rw [upd_ne eb]; exact s.there b o (by rw [upd_ne eb]; exact e)
  · rcases s.zn b zb with q | q | q
    · exact .inl q
    · exact .inr (.inl q)
    · by_cases eb : b = a
      · subst eb; exact .inl z
      · rw [upd_ne eb] at q; exact .inr (.inr q)
  · rcases s.fn b m with q | q
    · exact .inl q
    · by_cases eb : b = a
      · subst eb; rw [upd_same] at q; cases q
      · rw [upd_ne eb] at q; exact .inr q
theorem Send.unlk {n c : Nat} {A : List Addr} {Z' : Zs} {env' : Ev} {σ' : L2.St} {H2 : Hp} {F' : List (List Addr)} {od : Obj} (h : H a = some (.dT kvs)) (z : Z a) (na : a ∉ A) (nb : ¬ inB G a)
    (s : Send K G n c Z (upd H a (.frz od (.dT kvs))) A Z' env' σ' H2 F') : H2 a = some (.frz od (.dT kvs)) ∧ Send K G n c Z H A Z' env' σ' (upd H2 a (.dT kvs)) F' := by
  obtain ⟨e, st⟩ := Stp.unlk h z na nb s.st
  exact ⟨e, st, s.stt.relk (Relk.ulk e) (s.st.zz a z)⟩
end
end TT
namespace L2
open PySem PySem.Spec PyProof.Rows TT
/-! ### d.items() of a dict with tuple keys -/
def ItiT (d : Addr) (o : Obj) (kvs : List (List Key × V)) : It :=
  ⟨fun i H => H d = some (.frz o (.dT kvs)) ∧ i < kvs.length, fun i H x H' => ∃ T q k v, kvs[i]? = some (k, v) ∧ x = .ref T ∧ H T = none ∧ H q = some (.tup (k.map kV)) ∧ H' = upd H T (.tup [.ref q, v]), fun i H => H d = some (.frz o (.dT kvs)) ∧ kvs.length ≤ i⟩
section
variable {X : Cx} {pins : List (Addr × Obj)} {σ : St} {H : Hp} {s : Shared} {d : Addr} {o : Obj}
theorem Inv.frzT2 {kvs : List (List Key × V)} (I : Inv X pins σ H s) (h : H d = some (.frz o (.dT kvs))) :
    (d == sysModules) = false ∧ s.heap.get? d = some o ∧ o.ExactDict ∧ ∃ (es : Array DictEntry) (ep : Nat), o.data = .dict es ep ∧ es.size = kvs.length ∧
      ∀ (i : Nat) (k : List Key) (v : V), kvs[i]? = some (k, v) → ∃ (en : DictEntry) (q : Addr), es[i]? = some en ∧ en.key = .ref q ∧ H q = some (.tup (k.map kV)) ∧ RelV v en.val := by
  obtain ⟨hd, z, hs, xs, pr, o', es, ep, ho, hx, hdt, he, _⟩ := I.hok d _ h
  rw [hd] at ho
  cases ho
  refine ⟨hs, hd, hx, es, ep, hdt, ?_, fun i k v e => ?_⟩
  · have l1 : es.size = xs.length := size_of_entries he
    have l2 : kvs.length = xs.length := Paired.length pr
    omega
  · obtain ⟨b, hb, e1, e2, e3⟩ := paired_get pr e
    have q := entry_at he i
    rw [hb] at q
    exact ⟨_, b.2.1, q, rfl, e2, e3⟩
theorem turn_itemsT {P : Program} {w : World} {K : PySem.W.Frag} {kvs : List (List Key × V)} {elts : List Expr} {kk : Nat} {tpos : Pos} {es : Array DictEntry} {ep : Nat} (it : Addr) (ne : d ≠ it) (hod : o.data = .dict es ep) :
    Turn P w K (.Tuple elts kk tpos) (ItiT d o kvs) [it] it (fun i h => ∃ ok ov, IsItemIter h it d i es.size ep ok ov) where
  mem := by simp
  obj := fun i h st b hb => by
    have e : b = it := by simpa using hb
    subst e
    obtain ⟨ok, ov, e⟩ := st
    exact ⟨_, e, fun v z => nomatch z⟩
  keep := fun i h h' st k => let ⟨ok, ov, e⟩ := st; ⟨ok, ov, k it (by simp) _ e⟩
  item := by
    intro X hP hw hK hc i pins s σ H E I hf st hg
    subst hP hw hK
    obtain ⟨hd, hi⟩ := hg
    obtain ⟨hs, hgd, hx, es', ep', hdt, hsz, ent⟩ := I.frzT2 hd
    obtain ⟨rfl, rfl⟩ := dict_ep hod hdt
    obtain ⟨⟨k, v⟩, hkv⟩ : ∃ p, kvs[i]? = some p := ⟨kvs[i], List.getElem?_eq_getElem hi⟩
    obtain ⟨en, q, h1, h2, h3, h4⟩ := ent i k v hkv
    have G := GoesN.rawItems (prog := X.prog) (w := X.w) (A := X.A) (elts := elts) (x1 := kk) (pos := tpos) (I.ok.hd hc) it d ne es' ep'
    refine G.goes i s _ E (by omega) ⟨st, ⟨o, hgd, hx, hdt⟩⟩ fun u h' tk hY hS kp ht => ?_
    obtain ⟨T, hi2, rfl, hT, hTup⟩ := hY
    have een : es'[i] = en := by
      rw [Array.getElem?_eq_getElem hi2] at h1
      exact Option.some.inj h1
    rw [een] at hTup
    have fr : H T = none := HOk.fresh I.hok hT
    have kp' : ∀ (b : Addr) (o : Obj), b ∉ [it] → s.heap.get? b = some o → h'.get? b = some o := kp
    refine ⟨.ref T, upd H T (.tup [.ref q, v]), Inv.turnedNew I kp' (fun b m => hf b m) hT ?_, rfl, ⟨T, q, k, v, hkv, rfl, fr, h3, rfl⟩, hS.1, fun b m => ?_⟩
    · unfold ObjOk
      exact ⟨by show 2 ≤ sizeLine; decide, _, .cons (by rw [h2]; rfl) (.cons h4 .nil), hTup⟩
    · have eb : b = it := by simpa using m
      subst eb
      rw [upd_ne fun z => ?_]
      · exact (hf b m).1
      · subst z
        obtain ⟨ok, ov, e⟩ := st
        exact Nat.lt_irrefl _ (Nat.lt_of_lt_of_le (Heap.lt_size e) hT)
  done := by
    intro X hP hw hK hc i pins s σ H E I hf st hg
    subst hP hw hK
    obtain ⟨hd, hi⟩ := hg
    obtain ⟨hs, hgd, hx, es', ep', hdt, hsz, ent⟩ := I.frzT2 hd
    obtain ⟨rfl, rfl⟩ := dict_ep hod hdt
    obtain ⟨f0, f1, f2, f3, f4, f5⟩ := hf it (by simp)
    obtain ⟨ok, ov, e⟩ := st
    exact DT.endI (I.ok.hd hc) e ⟨o, hgd, hx, hdt⟩ (by omega) fun h' eb => ⟨rfl, I.turned (t' := s.toks) (fun b ob hb e => eb b ob hb e) f0 f1 f3 f4 f5⟩
  self := fun A i s Q E st h => let ⟨_, _, e⟩ := st; PySem.W.kcp_self e h
end
/-- the dict at a, locked -/
def iItemsT (te : TE) : TI := fun σ H R => te σ H fun x H1 => ∃ d o kvs, x = .ref d ∧ H1 d = some (.frz o (.dT kvs)) ∧ R (ItiT d o kvs) H1
theorem pi_itemsT {X : Cx} {e : Expr} {td : TE} {apos cpos tpos : Pos} {elts : List Expr} {kk : Nat} (he : PE X e td) (hbase : attributeBase e "items" X.env (eval e X.env) = eval e X.env := by rfl) (hline : (apos.endLine == cpos.line) = true := by rfl) :
    PI X (.Tuple elts kk tpos) (.Call (.Attribute e "items" apos) [] [] cpos) (iItemsT td) := by
  refine ⟨fun pins s σ H R I h => ?_⟩
  refine wpAny_Call_method (T := "dict") (id := "dict.items") hbase rfl hline F.plainAttrs_dict F.slot_dict_items F.type_dict_items (thn (he.run pins s σ H _ I h) fun u s1 ⟨x, H1, I1, rx, d, o, kvs, ex, hd, q⟩ => ?_)
  subst ex
  obtain rfl : u = Value.ref d := rx
  obtain ⟨hs, hgd, hx, es, ep, hdt, hsz, ent⟩ := I1.frzT2 hd
  have hm : DT.Raw s1.heap d es ep := ⟨o, hgd, hx, hdt⟩
  refine ⟨hm.typeIs, fun b q => by cases q; exact ⟨o, hgd, hx.2.1⟩, ?_⟩
  have I2 : Inv X pins σ H1 { s1 with heap := s1.heap.push { cls := .type "dict_items", data := .fields #[.ref d] } } := I1.kept (t' := s1.toks) fun b ob q => Heap.get?_push_of_some _ q
  have lt : d < s1.heap.objs.size := hm.lt
  have ne : d ≠ (s1.heap.push { cls := .type "dict_items", data := .fields #[.ref d] }).objs.size := fun z => by
    rw [Heap.size_push] at z
    rw [z] at lt
    exact absurd lt (Nat.not_lt.mpr (Nat.le_succ _))
  have fin : wpAny (model X.prog X.w) X.A (pyIter (.ref s1.heap.objs.size)) (PIE X pins σ (.Tuple elts kk tpos) R) X.xe { s1 with heap := s1.heap.push { cls := .type "dict_items", data := .fields #[.ref d] } } := by
    refine DT.iterI (d := d) ⟨_, Heap.get?_push_size _ rfl, rfl, rfl⟩ (hm.push _) (pi_one (tk := s1.toks) I2 _ (turn_itemsT _ ne hdt) ⟨.none, .none, ?_⟩ q)
    exact Heap.get?_push_size _ rfl
  show wpAny _ _ (callWith cpos (.builtin "dict.items") [.ref d] [] []) _ X.xe s1
  exact method_meetsIn F.slot_dict_items F.entry_dict_items rfl (PySem.evalArgs_none ⟨rfl, hm.typeIs, F.args_dict_items_1 _, _, DT.meetsItems (es := es) (ep := ep) hs, ⟨hm, fin⟩⟩)
end L2

set_option Elab.async false
set_option linter.all false
set_option maxRecDepth 100000
set_option maxHeartbeats 1000000
namespace TT
open PySem PySem.Spec PyProof.Rows L2
/-! ### for k, v in d.items() -/
def kD : Key → D
  | .inl i => .int i
  | .inr x => .str x
def itemsD : List (List Key) → List D → List D
  | k :: ks, d :: ds => .tup [.tup (k.map kD), d] :: itemsD ks ds
  | _, _ => []
theorem itemsD_len : ∀ {ks : List (List Key)} {ds : List D}, ks.length = ds.length → (itemsD ks ds).length = ks.length
  | [], [], _ => rfl
  | k :: ks, d :: ds, h => congrArg (· + 1) (itemsD_len (by simpa using h))
  | [], d :: ds, h => by simp at h
  | k :: ks, [], h => by simp at h
theorem itemsD_at : ∀ {ks : List (List Key)} {ds : List D} {i : Nat} {x : D}, ks.length = ds.length → (itemsD ks ds)[i]? = some x → ∃ k d, ks[i]? = some k ∧ ds[i]? = some d ∧ x = .tup [.tup (k.map kD), d]
  | k :: ks, d :: ds, 0, x, h, e => ⟨k, d, rfl, rfl, (Option.some.inj e).symm⟩
  | k :: ks, d :: ds, i + 1, x, h, e => itemsD_at (ks := ks) (ds := ds) (i := i) (by simpa using h) e
  | [], [], i, x, h, e => by simp [itemsD] at e
  | [], d :: ds, i, x, h, e => by simp at h
  | k :: ks, [], i, x, h, e => by simp at h
section
variable {K : PySem.W.Frag} {G : Bg} {Z : Zs} {H : Hp}
theorem rpL_kD : ∀ (k : List Key), RpL K G Z H (k.map kD) (k.map kV) []
  | [] => ⟨rfl, rfl⟩
  | .inl i :: k => ⟨_, _, [], [], rfl, ⟨rfl, rfl⟩, rpL_kD k, rfl⟩
  | .inr x :: k => ⟨_, _, [], [], rfl, ⟨rfl, rfl⟩, rpL_kD k, rfl⟩
theorem wlk_itemsT {a : Addr} {od : Obj} {ks : List (List Key)} {ds : List D} {vs : List V} (h : H a = some (.frz od (.dT (ks.zip vs)))) (hl : ks.length = vs.length) (r : RpL K G Z H ds vs []) (nd : ks.Nodup) :
    Wlk K G (ItiT a od (ks.zip vs)) (itemsD ks ds) Z H := by
  have hd : ks.length = ds.length := by rw [hl, r.len]
  have hz : (ks.zip vs).length = ks.length := by rw [List.length_zip]; omega
  have lk : ∀ {Z2 : Zs} {H2 : Hp}, Later Z H Z2 H2 → H2 a = some (.frz od (.dT (ks.zip vs))) := fun l => l.kp a _ h (.inl fun z => z)
  refine ⟨fun Z2 H2 i l hi => ⟨lk l, by rw [itemsD_len hd] at hi; omega⟩, fun Z2 H2 n i x H' d l g hx hy => ?_, fun Z2 H2 l => ⟨lk l, by rw [itemsD_len hd]; omega⟩⟩
  obtain ⟨T, q, k, v, hkv, ex, hT, hq, eH⟩ := hy
  subst ex eH
  obtain ⟨k', d', e1, e2, e3⟩ := itemsD_at hd hx
  subst e3
  have ek : ks[i]? = some k ∧ vs[i]? = some v := by
    rw [List.getElem?_zip_eq_some] at hkv
    exact hkv
  rw [ek.1] at e1
  cases e1
  obtain ⟨v', ev, rp⟩ := r.get0 e2
  rw [ek.2] at ev
  cases ev
  refine ⟨Stp.fresh hT, g.new hT, T, _, rfl, upd_same, .ref q, [v], [], [], rfl, ⟨q, _, rfl, ?_, rpL_kD k⟩, RpL.one (rp_upd (rpLater l rp) hT), rfl⟩
  rw [upd_ne (ne_of_none hq hT)]
  exact hq
end
/-- an expression that reads a place without writing -/
structure PathOf (X : Cx) (te : TE) (pv : Ev → Option D) : Prop where
  at_ : ∀ {G n Z H env σ F d}, Stt X.K G n Z H env σ F → pv env = some d → ∃ v fp, Rp X.K G Z H d v fp ∧ (∀ b ∈ fp, b ∈ F.flatten) ∧
    ∀ (a : Addr) (kvs : List (List Key × V)) (H2 : Hp) (Q : VK), H2 = H ∨ Relk a kvs H H2 → Q v H2 → te σ H2 Q
def pvV (i : Nat) : Ev → Option D := fun env => match env[i]? with
  | some o => o
  | none => none
theorem path_v (X : Cx) (i : Nat) : PathOf X (tVar i) (pvV i) := ⟨fun {G n Z H env σ F d} s h => by
  unfold pvV at h
  split at h
  · rename_i o e
    subst h
    obtain ⟨v, fp, e1, e2, r⟩ := s.at_ i d e
    exact ⟨v, fp, r, memF e2, fun a kvs H2 Q _ q => ⟨v, e1, q⟩⟩
  · cases h⟩
def rForIt (ms : List Bool) (N : Nat) (pv : Ev → Option D) (g : RG) (t : RS) : RS := fun P env => match pv (frzS ms env) with
  | some (.dcT false ks ds) => ks.length ≤ N ∧ rForL g t (itemsD ks ds) { P with ex := fun _ _ => False } (frzS ms env)
  | _ => False
section
variable {X : Cx} {W : WX} {G : Bg} {c2 : Nat} {e : Expr} {pos apos cpos tpos : Pos} {elts : List Expr} {kk : Nat}
theorem psOr {st : Stmt} {t t' : TS} (h : PS X st t) (h' : PS X st t') : PS X st (fun D σ H => t D σ H ∨ t' D σ H) := ⟨fun pins s σ H D I q => q.elim (h.run pins s σ H D I) (h'.run pins s σ H D I)⟩
theorem js_forItems {ks : List Nat} {g : RG} {t : RS} {body : List Stmt} {te : TE} {pv : Ev → Option D} (N : Nat) (ms : List Bool) (hp : PassesOwn (model X.prog X.w) X.A X.env X.xe) (hc : X.calm = true) (he : PE X e te) (hv : PathOf X te pv) (hg : JG X G ks (.Tuple elts kk tpos) g) (hb : JB X W G c2 body t)
    (hbase : attributeBase e "items" X.env (eval e X.env) = eval e X.env := by rfl) (hline : (apos.endLine == cpos.line) = true := by rfl) (hs : ∀ x, foldedSetIterable (.Call (.Attribute e "items" apos) [] [] cpos) X.env x = pure x := by intro _; rfl) :
    JS X W G (0 + N * c2) (.For (.Tuple elts kk tpos) (.Call (.Attribute e "items" apos) [] [] cpos) body [] pos) (rForIt ms N pv g t) := by
  have base := ps_for hp hc (pi_itemsT (cpos := cpos) he hbase hline) hg hb hs (pos := pos)
  refine psImp (psOr (ps_lock base) base) fun Dn σ H h => ?_
  obtain ⟨n, Z, env, F, P, l, s, t, qn, qb, qc, qr, qx⟩ := h
  unfold rForIt at t
  obtain ⟨gd, w⟩ := s.view ms
  obtain ⟨s1, st1⟩ := s.shared (ms := ms) (Rs.zero ⟨gd, (by omega : n + 0 ≤ lim)⟩)
  split at t
  · rename_i kz dz hpv
    obtain ⟨v, fp, rp, hfp, ht⟩ := hv.at_ s1 hpv
    obtain ⟨a, vs, ev, hr, hl, hz, rl, ef⟩ := rp
    subst ev ef
    have e1 : Send X.K G n 0 Z H F.flatten _ (frzS ms env) σ H (drpF ms F) := ⟨st1, s1⟩
    have na : a ∉ (drpF ms F).flatten := fun m => s1.nz a m hz
    have nb : ¬ inB G a := s1.gd.nz a hz
    rcases hr with hr | ⟨od, hr⟩
    · refine .inl ⟨a, _, hr, trivial, fun od => ?_⟩
      have lk := Relk.lk hr od
      have s2 := s1.relk lk hz
      refine ht a _ _ _ (.inr lk) ⟨a, od, _, rfl, upd_same, ?_⟩
      refine for_run (X := X) (W := W) (c2 := c2) (N := N) (P := { P with ex := fun _ _ => False }) rfl (fun _ _ _ _ h => h) (fun _ _ _ h => h) s2 (wlk_itemsT upd_same hl.1 (RpL.relk lk _ _ _ (fun m => nomatch m) rl) hl.2) (.inl (by rw [itemsD_len (by rw [hl.1, rl.len])]; exact t.1)) (by omega) t.2 (fun Z' env' σ' H' F' e q => ?_) (fun d v fp Z' H' st g o q => ?_) (fun _ _ _ _ _ _ _ _ _ _ z => z.elim)
      · obtain ⟨u1, u2⟩ := Send.unlk hr hz na nb e
        exact ⟨u1, qn _ _ _ _ _ (e1.trans u2) q⟩
      · obtain ⟨u1, u2⟩ := Stp.unlk hr hz na nb st
        have za := st.zz a hz
        have rk := Relk.ulk u1
        refine ⟨u1, qr d v fp Z' _ (e1.st.trans u2 fun a m => e1.st.fn a m) (by simpa using g.relk rk za) ⟨Rp.relk rk d v fp (fun m => o.nz a m za) o.rp, o.nd, o.nz, o.nb⟩ q⟩
    · refine .inr (ht a (kz.zip vs) H _ (.inl rfl) ⟨a, od, _, rfl, hr, ?_⟩)
      refine for_run (X := X) (W := W) (c2 := c2) (N := N) (P := { P with ex := fun _ _ => False }) rfl (fun _ _ _ _ h => h) (fun _ _ _ h => h) s1 (wlk_itemsT hr hl.1 rl hl.2) (.inl (by rw [itemsD_len (by rw [hl.1, rl.len])]; exact t.1)) (by omega) t.2 (fun Z' env' σ' H' F' e q => qn _ _ _ _ _ (e1.trans e) q) (fun d v fp Z' H' st g o q => qr d v fp Z' H' (e1.st.trans st fun a m => e1.st.fn a m) (by simpa using g) o q) (fun _ _ _ _ _ _ _ _ _ _ z => z.elim)
  · exact t.elim
end
end TT

set_option Elab.async false
set_option linter.all false
set_option maxRecDepth 100000
set_option maxHeartbeats 1000000
namespace L2
open PySem PySem.Spec PyProof.Rows
/-- sum(xs) of a tuple of ints -/
def rSumTu (K : PySem.W.Frag) : List V → Hp → VK → Prop := fun vs H Q => ∃ (a : Addr) (ns : List Int), vs = [V.ref a] ∧ SqT K H a (ns.map V.int) ∧ Q (.int ns.sum) H
theorem cr_sumTu {X : Cx} (hc : X.calm = true) : CallR X (.builtin "sum") (rSumTu X.K) := by
  intro pins s σ H vs us Q I r h
  obtain ⟨a, ns, rfl, hs, q⟩ := h
  obtain ⟨its, rv, hl, _⟩ := I.tuple hs
  rw [Vals.ref1 r]
  obtain ⟨xs, e⟩ := rv.ints.allInts.items
  have hn : numsOf (intItems xs).toList = ns := by rw [← e]; exact rv.ints.numsOf
  rw [nums_intItems] at hn
  have hl' : s.heap.IsTuple a its.toArray := hl
  rw [e] at hl'
  refine PySem.W.ktm_sumG (I.ok.hd hc) hl' fun h' tk t' hk => ?_
  refine ⟨.int _, H, I.kept hk, ⟨t', ?_⟩, q⟩
  rw [preSum_eq, List.take_of_length_le (by simp), hn]
end L2
namespace TT
open PySem PySem.Spec PyProof.Rows L2
/-! ### xs[k] of a slot's list, as a place -/
def pvIx (i : Nat) (k : Int) : Ev → Option D := fun env => match env[i]? with
  | some (some (.lst _ ds)) => atI ds k
  | _ => none
theorem path_ix (X : Cx) (i : Nat) (k : Int) : PathOf X (tOp (rIx X.K) (tVar i) (tC (.int k))) (pvIx i k) := ⟨fun {G n Z H env σ F d} s h => by
  unfold pvIx at h
  split at h
  · rename_i ow ds e
    obtain ⟨v, fp, e1, e2, r⟩ := s.at_ i _ e
    obtain ⟨j, h1, h2⟩ := atI_at h
    cases ow with
    | true =>
      obtain ⟨a, vs, f, ev, hH, rl, ef⟩ := r
      obtain ⟨u, f', hu, ru, hf⟩ := rl.get h2
      refine ⟨u, f', ru, fun b m => memF e2 b (by rw [ef]; exact List.mem_cons_of_mem _ (hf b m)), fun a2 kvs H2 Q hk q => ?_⟩
      have h3 : H2 a = some (.lst vs) := by
        rcases hk with rfl | hk
        · exact hH
        · exact hk.go hH (fun _ z => nomatch z) (fun _ _ z => nomatch z)
      exact ⟨v, e1, .inl ⟨a, vs, k, u, ev, rfl, SqL.of h3, at_atI (by rw [rl.len]; exact h1) hu, q⟩⟩
    | false =>
      obtain ⟨a, vs, ev, hH, hz, rl, ef⟩ := r
      obtain ⟨u, f', hu, ru, hf⟩ := rl.get h2
      refine ⟨u, f', ru, fun b m => (nomatch (hf b m)), fun a2 kvs H2 Q hk q => ?_⟩
      have h3 : H2 a = some (.lst vs) := by
        rcases hk with rfl | hk
        · exact hH
        · exact hk.go hH (fun _ z => nomatch z) (fun _ _ z => nomatch z)
      exact ⟨v, e1, .inl ⟨a, vs, k, u, ev, rfl, SqL.of h3, at_atI (by rw [rl.len]; exact h1) hu, q⟩⟩
  · cases h⟩
section
variable {X : Cx} {W : WX} {G : Bg} {c c1 c2 c3 : Nat} {o e f : Expr} {es : List Expr} {to ta tf : RE} {pos apos cpos : Pos}
/-! ### d.get(k, x) -/
def isT (x : D) : Prop := match x with
  | .dcT false _ _ => True
  | _ => False
def gGet2 (x y z : D) (Q : D → Prop) : Prop := match x, keyD y with
  | .dcT false ks ds, some k => Q ((dlk k ks ds).getD z)
  | _, _ => False
def rGet2 (to ta tf : RE) : RE := fun env Q E => to env (fun x => isT x ∧ ta env (fun y => tf env (fun z => gGet2 x y z Q) E) E) E
theorem je_get2 (hu : X.A.units + 65 < cLine) (ho : JE X W G c1 o to) (ha : JE X W G c2 e ta) (hf : JE X W G c3 f tf) (m : M2 X o "get" apos e f cpos) :
    JE X W G (c1 + (c2 + c3)) (.Call (.Attribute o "get" apos) [e, f] [] cpos) (rGet2 to ta tf) := peImp (pe_dget2 (by omega) ho ha hf m) fun σ H Q h => by
  obtain ⟨n, Z, env, Q', E', p, w, t, q, x⟩ := h
  refine ⟨n, Z, env, _, E', p.left, w, t, fun dx v fx Z1 H1 r1 o1 t1 => ?_, fun y cls da Z1 H1 r => x y cls da Z1 H1 r.up⟩
  obtain ⟨ht, t1⟩ := t1
  unfold isT at ht
  split at ht
  · rename_i ks ds
    obtain ⟨a, vs, ev, hr, hl, hz, rl, ef⟩ := id o1.rp
    subst ev ef
    have p2 := p.right r1
    refine ⟨a, rfl, .inr ⟨_, hr⟩, n + c1, Z1, env, _, E', p2.left, w.step p.gd r1.st, t1, fun dy u fy Z2 H2 r2 o2 t2 => ?_, fun y cls da Z2 H2 r => x y cls da Z2 H2 (r1.then0 r.up)⟩
    refine ⟨n + c1 + c2, Z2, env, _, E', p2.right r2, (w.step p.gd r1.st).step r1.gd r2.nofp.st, t2, fun dz u3 fz Z3 H3 r3 o3 t3 => ?_, fun y cls da Z3 H3 r => x y cls da Z3 H3 (r1.then0 (r2.then0 r))⟩
    unfold gGet2 at t3
    split at t3
    · rename_i ks' ds' k e1 hk
      cases e1
      have r23 := r2.nofp.par r3
      have s3 := (o1.step r1.gd r23.st).rp
      obtain ⟨a', vs', ev', hr', hl', hz', rl', ef'⟩ := s3
      cases ev'
      obtain ⟨b, eb, hb, efy⟩ := rp_key hk (o2.step r2.gd r3.st).rp
      subst eb
      refine ⟨_, DGet.tR (k := k) hr' hb, ?_⟩
      have r13 := r1.par r23
      cases hd : dlk k ks ds with
      | none =>
        have hv : valV (ks.zip vs') k = none := by
          have := val_isSome (x := k) rl' hl'.1
          rw [hd] at this
          cases hh : valV (ks.zip vs') k with
          | none => rfl
          | some _ => rw [hh] at this; cases this
        rw [hd] at t3
        rw [hv]
        exact q dz u3 _ Z3 H3 (by simpa using r13) o3 t3
      | some d =>
        obtain ⟨v, hv, rv⟩ := val_dlk0 rl' hl'.1 hd
        rw [hd] at t3
        rw [hv]
        exact q d v [] Z3 H3 r13.nofp (Ob.flat rv) t3
    · exact t3.elim
  · exact ht.elim
/-! ### sum, gcd -/
def gSum : List D → (D → Prop) → Prop := fun ds Q => match ds with
  | [.lst _ xs] => ∃ ns : List Int, xs = ns.map D.int ∧ Q (.int ns.sum)
  | [.tup xs] => ∃ ns : List Int, xs = ns.map D.int ∧ Q (.int ns.sum)
  | _ => False
def rSumD (K : PySem.W.Frag) : List V → Hp → VK → Prop := fun xs H Q => rSum K xs H Q ∨ rSumTu K xs H Q
theorem call_sumD (hc : X.calm = true) : CallR X (.builtin "sum") (rSumD X.K) := (cr_sum hc).or (cr_sumTu hc)
theorem v_sum : VOpL X G (rSumD X.K) gSum := by
  intro n Z H ds xs fx Q' Q g o t q
  unfold gSum at t
  split at t
  · rename_i ow ys
    obtain ⟨ns, rfl, t⟩ := t
    obtain ⟨v, ev, ob⟩ := obL1 o
    obtain ⟨a, vs, f, e1, hp, l1, s1, _⟩ := ob.lstOpen
    refine .inl ⟨a, ns, by rw [ev, e1], ?_, vdone (d := .int ns.sum) g q ⟨rfl, rfl⟩ t⟩
    rw [← rpL_ints l1.rp]
    exact SqL.of hp
  · rename_i ys
    obtain ⟨ns, rfl, t⟩ := t
    obtain ⟨v, ev, ob⟩ := obL1 o
    obtain ⟨a, vs, e1, hp, l1⟩ := ob.tupOpen
    refine .inr ⟨a, ns, by rw [ev, e1], ?_, vdone (d := .int ns.sum) g q ⟨rfl, rfl⟩ t⟩
    rw [← rpL_ints l1.rp]
    exact hp
  · exact t.elim
def gGcd : List D → (D → Prop) → Prop := gII1 fun i j => .int ((Nat.gcd i.natAbs j.natAbs : Nat) : Int)
theorem v_gcd : VOpL X G rGcd gGcd := v_ii fun i j K Z H => ⟨rfl, rfl⟩
theorem je_callFun {x : Str} {p : Pos} {id : String} {r : List V → Hp → VK → Prop} {g : List D → (D → Prop) → Prop} {t : RA} (hc : CallR X (.builtin id) r) (hv : VOpL X G r g) (hg : Gl X x) (hm : X.mg x = some (.builtin id)) (ha : JA X W G c (e :: es) t) (hdb : (x == ("__debug__" : Str)) = false := by decide)
    (he : starEach (e :: es) X.env = (false, eval e X.env) :: starEach es X.env := by rfl) (hpl : (backTo pos (starEach es X.env)).any (·.1) = false := by rfl) :
    JE X W G c (.Call (.Name x p) (e :: es) [] pos) (rL t g) := peImp (pe_callBfun hc hg hm ha hdb he hpl) (tCB_of hv)
end
end TT

set_option Elab.async false
set_option linter.all false
set_option maxRecDepth 100000
set_option maxHeartbeats 1000000
namespace TT
open PySem PySem.Spec PyProof.Rows L2
/-! ### xs.insert(k, x) -/
theorem RpL.splitAt {K : PySem.W.Frag} {G : Bg} {Z : Zs} {H : Hp} : ∀ (ds : List D) (vs : List V) (f : List Addr) (k : Nat), RpL K G Z H ds vs f → ∃ f1 f2, f = f1 ++ f2 ∧ RpL K G Z H (ds.take k) (vs.take k) f1 ∧ RpL K G Z H (ds.drop k) (vs.drop k) f2
  | ds, vs, f, 0, r => ⟨[], f, rfl, ⟨rfl, rfl⟩, r⟩
  | [], vs, f, k + 1, r => by
    obtain ⟨e1, e2⟩ := r
    subst e1 e2
    exact ⟨[], [], rfl, ⟨rfl, rfl⟩, ⟨rfl, rfl⟩⟩
  | d :: ds, vs, f, k + 1, ⟨v, vs', f1, f2, e, r, rs, ef⟩ => by
    subst e ef
    obtain ⟨g1, g2, e, r1, r2⟩ := RpL.splitAt ds vs' f2 k rs
    subst e
    exact ⟨f1 ++ g1, g2, by rw [List.append_assoc], ⟨v, vs'.take k, f1, g1, rfl, r, r1, rfl⟩, r2⟩
def rInsS (i : Nat) (ms : List Bool) (ta : RA) : RS := fun P env => match env[i]? with
  | some (some (.lst true _)) => ta (mask ms env) (fun ds => match ds with
    | [.int k, d] => (0 ≤ k ∧ k < 2 ^ 63) ∧ match (aft ms env (.tup ds))[i]? with
      | some (some (.lst true xs)) => xs.length < sizeLine ∧ P.nx ((aft ms env (.tup ds)).set i (some (.lst true (xs.take k.toNat ++ [d] ++ xs.drop k.toNat))))
      | _ => False
    | _ => False) (fun x => P.ex x (frzS ms env))
  | _ => False
section
variable {X : Cx} {W : WX} {G : Bg} {c : Nat} {o e f : Expr} {pos apos cpos : Pos} {ta : RA}
theorem js_insert {i : Nat} (ms : List Bool) (ho : PE X o (tVar i)) (ha : JA X W G c [e, f] ta) (hs : swapsWith (.Call (.Attribute o "insert" apos) [e, f] [] cpos) none pos.line X.env = pure false := by rfl)
    (hbase : attributeBase o "insert" X.env (eval o X.env) = eval o X.env := by rfl) (hline : (apos.endLine == cpos.line) = true := by rfl) (hse : starEach [e, f] X.env = (false, eval e X.env) :: starEach [f] X.env := by rfl) 
    (hfew : ((backTo cpos (starEach [e, f] X.env)).all (fun x => !x.1) && (backToKw cpos (keywordEach [] X.env)).all (fun x => x.1.isSome)
      && decide (([e, f] : List Expr).length + ([] : List Keyword).length + (if ([] : List Keyword).isEmpty then 0 else 1) < 30)) = true := by rfl) (hpl : ((backTo cpos (starEach [f] X.env)).any fun x => x.1) = false := by rfl) :
    JS X W G c (.Expr (.Call (.Attribute o "insert" apos) [e, f] [] cpos) pos) (rInsS i ms ta) := by
  refine psImp (ps_expr (pe_bm PySem.F.plainAttrs_list PySem.F.slot_list_insert PySem.F.type_list_insert mt_insert ho ha hbase hfew hline hse hpl) hs) fun Dn σ H h => ?_
  obtain ⟨n, Z, env, F, P, l, s, t, qn, qb, qc, qr, qx⟩ := h
  unfold rInsS at t
  split at t
  · rename_i ds0 h0
    obtain ⟨v0, fp0, e1, e2, rp0⟩ := s.at_ i _ h0
    obtain ⟨a, vs0, f0, ev, ha, _, _⟩ := rp0
    obtain ⟨g, w⟩ := s.view ms
    refine ⟨v0, e1, by rw [ev]; exact .inl ⟨rfl, _, SqL.of ha⟩, n, _, mask ms env, _, _, ⟨g, l⟩, w, t, fun ds us fp Z1 H1 r1 o1 t1 => ?_, fun y cls da Z1 H1 r1 xr e1 => qx y cls da Z1 _ σ H1 _ (s.fails r1) xr e1⟩
    split at t1
    · rename_i k d
      obtain ⟨⟨k0, k1⟩, t1⟩ := t1
      obtain ⟨Z2, F2, s1, o2, ap, st⟩ := s.afterL r1 o1
      obtain ⟨u1, us1, f1, f2, eu, ef, oa, ob, ap2⟩ := o2.split
      obtain ⟨u2, us2, f3, f4, eu', ef', ob2, on, ap3⟩ := ob.split
      have g1 : us2 = [] := on.rp.1
      have g2 : f4 = [] := on.rp.2
      have g3 : u1 = .int k := oa.rp.1
      have g4 : f1 = [] := oa.rp.2
      subst g1 g2 g3 g4 ef ef' eu eu'
      simp only [List.nil_append, List.append_nil] at ap o2 st
      split at t1
      · rename_i xs h1
        obtain ⟨v1, fp1, e3, e4, rp1⟩ := s1.at_ i _ h1
        rw [e1] at e3
        cases e3
        obtain ⟨a1, vs, f, ev1, ha1, rl, ef⟩ := rp1
        rw [ev] at ev1
        cases ev1
        subst ef
        refine ⟨a, vs, k, u2, ev, rfl, ha1, by rw [rl.len]; exact t1.1, k0, k1, ?_⟩
        have nd1 : (a :: f).Nodup := by
          obtain ⟨nd, _⟩ := flat_drop F2 i (a :: f) e4 s1.nd
          exact nd
        have na : a ∉ f := (List.nodup_cons.mp nd1).1
        have ma : a ∈ F2.flatten := memF e4 a List.mem_cons_self
        have nfp : a ∉ f3 := fun m => ap a m a ma rfl
        generalize hV : vs.take k.toNat ++ [u2] ++ vs.drop k.toNat = vN
        have kU : ∀ b u, H1 b = some u → b ∉ [a] → (upd H1 a (.lst vN)) b = some u := fun b u hb nb => by
          rw [upd_ne fun e => nb (by simp [e])]; exact hb
        have thU : ∀ b u, H1 b = some u → ∃ u', (upd H1 a (.lst vN)) b = some u' := fun b u hb => by
          by_cases hba : b = a
          · subst hba; exact ⟨_, upd_same⟩
          · exact ⟨u, by rw [upd_ne hba]; exact hb⟩
        have nZ : ¬ Z2 a := s1.nz a ma
        have kR : ∀ (fx : List Addr), a ∉ fx → ∀ b u, H1 b = some u → (¬ Mut (some u) ∨ Z2 b ∨ b ∈ fx) → (upd H1 a (.lst vN)) b = some u := fun fx hx b u hb cs => by
          refine kU b u hb fun m => ?_
          have : b = a := by simpa using m
          subst this
          rcases cs with cs | cs | cs
          · rw [ha1] at hb; cases hb; exact cs trivial
          · exact nZ cs
          · exact hx cs
        have sub1 : ∀ b ∈ (F2.set i []).flatten, b ∈ F2.flatten := fun b m => (flat_set F2 i [] b m).elim (fun z => (nomatch z)) id
        obtain ⟨_, ap1⟩ := flat_drop F2 i (a :: f) e4 s1.nd
        obtain ⟨p1, p2, efp, q1, q2⟩ := RpL.splitAt xs vs f k.toNat rl
        have pm : (p1 ++ f3 ++ p2).Perm (f ++ f3) := by
          rw [efp, List.append_assoc, List.append_assoc]
          exact List.Perm.append_left _ List.perm_append_comm
        have mem : ∀ b, b ∈ p1 ++ f3 ++ p2 ↔ b ∈ f ∨ b ∈ f3 := fun b => by rw [pm.mem_iff, List.mem_append]
        have rN : RpL X.K G Z2 (upd H1 a (.lst vN)) (xs.take k.toNat ++ [d] ++ xs.drop k.toNat) vN (p1 ++ f3 ++ p2) := by
          have h1 : RpL X.K G Z2 (upd H1 a (.lst vN)) (xs.take k.toNat) (vs.take k.toNat) p1 := RpL.keep (fun _ z => z) _ _ _ (kR p1 fun m => na (by rw [efp]; exact List.mem_append_left _ m)) q1
          have h2 : RpL X.K G Z2 (upd H1 a (.lst vN)) (xs.drop k.toNat) (vs.drop k.toNat) p2 := RpL.keep (fun _ z => z) _ _ _ (kR p2 fun m => na (by rw [efp]; exact List.mem_append_right _ m)) q2
          have := (h1.app (RpL.one (Rp.keep (fun _ z => z) _ _ _ (kR f3 nfp) ob2.rp))).app h2
          rw [hV] at this
          exact this
        have oN : Ob X.K G Z2 (upd H1 a (.lst vN)) (.lst true (xs.take k.toNat ++ [d] ++ xs.drop k.toNat)) v0 (a :: (p1 ++ f3 ++ p2)) := by
          refine ⟨⟨a, vN, _, ev, upd_same, rN, rfl⟩, ?_, fun b m => ?_, fun b m => ?_⟩
          · refine List.nodup_cons.mpr ⟨fun m => ((mem a).mp m).elim na nfp, pm.nodup_iff.mpr (List.nodup_append.mpr ⟨(List.nodup_cons.mp nd1).2, ob2.nd, fun b hb b' hb' e => ap b' hb' b (memF e4 b (List.mem_cons_of_mem _ hb)) e.symm⟩)⟩
          · rcases List.mem_cons.mp m with m | m
            · rw [m]; exact nZ
            · exact ((mem b).mp m).elim (fun m => s1.nz b (memF e4 b (List.mem_cons_of_mem _ m))) (ob2.nz b)
          · rcases List.mem_cons.mp m with m | m
            · rw [m]; exact s1.nb a ma
            · exact ((mem b).mp m).elim (fun m => s1.nb b (memF e4 b (List.mem_cons_of_mem _ m))) (ob2.nb b)
        have sN := s1.mutate (H' := upd H1 a (.lst vN)) (M := [a]) h1 e1 e4 kU thU (fun b m => by
          have : b = a := by simpa using m
          rw [this]; exact List.mem_cons_self) oN (fun b hb b' hb' => by
          rcases List.mem_cons.mp hb with m | m
          · rw [m]; exact ap1 a List.mem_cons_self b' hb'
          · rcases (mem b).mp m with m | m
            · exact ap1 b (List.mem_cons_of_mem _ m) b' hb'
            · exact ap b m b' (sub1 b' hb'))
        refine qn Z2 _ σ _ _ ⟨⟨fun b u hb nb nA => ?_, fun b u hb => ?_, st.zz, st.zn, fun b m => ?_⟩, sN⟩ t1.2
        · have q1 := st.keep b u hb nb nA
          refine kU b u q1 fun m => ?_
          have : b = a := by simpa using m
          subst this
          rcases st.fn b (List.mem_append_right _ ma) with z | z
          · exact nA z
          · rw [hb] at z; cases z
        · obtain ⟨u', q1⟩ := st.there b u hb
          exact thU b u' q1
        · refine st.fn b ?_
          rcases flat_set F2 i (a :: (p1 ++ f3 ++ p2)) b m with m | m
          · rcases List.mem_cons.mp m with m | m
            · exact List.mem_append_right _ (by rw [m]; exact ma)
            · rcases (mem b).mp m with m | m
              · exact List.mem_append_right _ (memF e4 b (List.mem_cons_of_mem _ m))
              · exact List.mem_append_left _ m
          · exact List.mem_append_right _ m
      · exact t1.elim
    · exact t1.elim
  · exact t.elim
end
end TT

set_option Elab.async false
set_option linter.all false
set_option maxRecDepth 100000
set_option maxHeartbeats 1000000
namespace TT
open PySem PySem.Spec PyProof.Rows L2
/-! ### a call that hands over what it owns -/
theorem RpL.parts {K : PySem.W.Frag} {G : Bg} {Z : Zs} {H : Hp} : ∀ (ds : List D) (vs : List V) (fp : List Addr), RpL K G Z H ds vs fp → ∃ Fs : List (List Addr), Fs.length = ds.length ∧ Fs.flatten = fp ∧ ∀ (i : Nat) (d : D), ds[i]? = some d → ∃ v f, vs[i]? = some v ∧ Fs[i]? = some f ∧ Rp K G Z H d v f
  | [], vs, fp, r => ⟨[], rfl, r.2.symm, fun i d h => by simp at h⟩
  | d0 :: ds, vs, fp, ⟨v, vs', f1, f2, e, r, rs, ef⟩ => by
    obtain ⟨Fs, h1, h2, h3⟩ := RpL.parts ds vs' f2 rs
    subst e ef
    refine ⟨f1 :: Fs, by simp [h1], by rw [List.flatten_cons, h2], fun i d h => ?_⟩
    cases i with
    | zero => cases h; exact ⟨v, f1, rfl, rfl, r⟩
    | succ i => exact h3 i d h
def liSO (K : PySem.W.Frag) (mg : Str → Option Value) (G : Bg) (c k : Nat) (sp : Spt) : Sp := fun vs H Q E => ∃ (n : Nat) (Z : Zs) (ds : List D) (fp : List Addr) (Q' : D → Prop) (E' : XD → Prop),
  Pre G n c Z H ∧ ObL K G Z H ds vs fp ∧ ds.length = k ∧ sp ds Q' E' ∧
  (∀ d v fp' Z' H', Stp G fp Z H fp Z' H' fp' → Gd G (n + c) Z' H' → Ob K G Z' H' d v fp' → Q' d → Q v H') ∧
  (∀ x cls da Z' H', Stp G fp Z H fp Z' H' [] → Gd G (n + c) Z' H' → Xr K mg G Z' H' cls da x → E' x → E cls da H')
theorem liSO.len {K : PySem.W.Frag} {mg : Str → Option Value} {G : Bg} {c k : Nat} {sp : Spt} {vs : List V} {H : Hp} {Q : VK} {E : XK} (h : liSO K mg G c k sp vs H Q E) : vs.length = k := by
  obtain ⟨n, Z, ds, fp, Q', E', p, r, l, _⟩ := h
  rw [r.rp.len, l]
def FnTO (P : Program) (w : World) (K : PySem.W.Frag) (mg : Str → Option Value) (base : Heap) (G : Bg) (c k : Nat) (f : Addr) (fd : FuncData) (ps : List Str) (sp : Spt) : Prop := FnG P w K mg base (L2.CX P w) k f fd ps (liSO K mg G c ps.length sp)
section
variable {P : Program} {w : World} {K : PySem.W.Frag} {mg : Str → Option Value} {base : Heap} {G : Bg}
theorem stt_startO {n : Nat} {Z : Zs} {H : Hp} {N : List Str} {ds : List D} {vs : List V} {fp : List Addr} (g : Gd G n Z H) (o : ObL K G Z H ds vs fp) (hl : ds.length ≤ N.length) : ∃ F, F.flatten = fp ∧ Stt K G n Z H (startE N ds) (L2.start N vs) F := by
  obtain ⟨Fs, h1, h2, h3⟩ := RpL.parts ds vs fp o.rp
  have e1 : vs.length = ds.length := o.rp.len
  have ef : (Fs ++ List.replicate (N.length - ds.length) ([] : List Addr)).flatten = fp := by rw [List.flatten_append, h2]; simp
  refine ⟨_, ef, g, ?_, ?_, fun i d h => ?_, by rw [ef]; exact o.nd, fun a m => ?_, fun a m => ?_, fun a m => ?_⟩
  · unfold startE L2.start
    simp only [List.length_append, List.length_map, List.length_replicate, e1]
  · unfold startE
    simp only [List.length_append, List.length_map, List.length_replicate, h1]
  · have hi : i < ds.length := by
      unfold startE at h
      by_cases hi : i < ds.length
      · exact hi
      · rw [List.getElem?_append_right (by simpa using hi)] at h
        rw [List.getElem?_replicate] at h
        split at h <;> cases h
    have hd : ds[i]? = some d := by
      unfold startE at h
      rw [List.getElem?_append_left (by simpa using hi), List.getElem?_map] at h
      cases e : ds[i]? with
      | none => rw [e] at h; cases h
      | some a => rw [e] at h; cases h; rfl
    obtain ⟨v, f, hv, hf, rp⟩ := h3 i d hd
    refine ⟨v, f, ?_, ?_, rp⟩
    · unfold L2.start
      rw [List.getElem?_append_left (by simp; omega), List.getElem?_map, hv]
      rfl
    · rw [List.getElem?_append_left (by omega), hf]
  · rw [ef] at m; exact o.nz a m
  · rw [ef] at m; exact o.nb a m
  · rw [ef] at m
    obtain ⟨u, e, mu⟩ := RpL.fpMut _ _ _ o.rp a m
    rw [e]; exact mu
theorem Fun.okTO {x qual : Str} {st : Stmt} {f : Addr} {fd : FuncData} {N ps : List Str} {k c : Nat} {sp : Spt} (F : Fun K x qual st f fd) (S : FnScope N ps (defScope st))
    (hbody : ∀ (cdv : Value) (A : Around) (outer : List Env) (s : Shared) (H : Hp) (E : XK), RoomG k (A.deeper (envOfC qual (defScope st) s.heap.objs.size f cdv)) → Takes (cxT P w K mg base N qual st f cdv A outer s H E) (fun cls d _ H' => E cls d H') →
      ∃ t, JB (cxT P w K mg base N qual st f cdv A outer s H E) (fun cls d _ H' => E cls d H') G c (defBody st) t ∧
        ∀ ds Q' E', ds.length = ps.length → sp ds Q' E' → t { nx := fun _ => Q' .non, rt := Q', ex := fun x _ => E' x } (startE N ds)) : FnTO P w K mg base G c (k + 1) f fd ps sp := by
  have hpl : ps.length ≤ N.length := by have := congrArg List.length S.pre; rw [List.length_take] at this; omega
  refine okG F S (fun vs H Q E h => h.len) (fun cdv A outer s H vs Q E hr hsp => ?_)
  obtain ⟨t, ht, hq⟩ := hbody cdv A outer s H E hr (takes_of rfl rfl rfl rfl)
  obtain ⟨n, Z, ds, fp, Q', E', p, o, l, sp', q, x⟩ := hsp
  obtain ⟨F0, ef, s0⟩ := stt_startO (N := N) p.gd o (by omega)
  refine ⟨_, ht, n, Z, startE N ds, F0, _, p.le, s0, hq ds Q' E' l sp', ?_, ?_, ?_, ?_, ?_⟩
  · intro Z' env' σ' H' F' e q'
    rw [ef] at e
    exact q .non .non [] Z' H' e.st.drop e.stt.gd (Ob.flat ⟨rfl, rfl⟩) q'
  · intro Z' env' σ' H' F' e q'
    exact q'.elim
  · intro Z' env' σ' H' F' e q'
    exact q'.elim
  · intro d v fp' Z' H' st g o q'
    rw [ef] at st
    exact q d v fp' Z' H' st g o q'
  · intro y cls da Z' env' σ' H' F' e xr q'
    rw [ef] at e
    exact x y cls da Z' H' e.st.drop e.stt.gd xr q'
end
def CalTO (P : Program) (w : World) (K : PySem.W.Frag) (mg : Str → Option Value) (base : Heap) (G : Bg) (x : Str) (c k : Nat) (ps : List Str) (sp : Spt) : Prop :=
  ∃ f fd, FnTO P w K mg base G c k f fd ps sp ∧ mg x = some (.ref f) ∧ PySem.W.keepIn K (.ref f) = true ∧ Binds K fd ps []
def rCallO (sp : Spt) (k : Nat) (t : RA) : RE := fun env Q E => t env (fun ds => ds.length = k ∧ sp ds Q E) E
section
variable {X : Cx} {W : WX} {G : Bg} {c1 c2 : Nat} {e : Expr} {es : List Expr} {pos : Pos}
theorem je_callTO {x : Str} {p : Pos} {ps : List Str} {k j : Nat} {sp : Spt} {t : RA} (C : CalTO X.prog X.w X.K X.mg X.base G x c2 k ps sp) (hr : RoomG j X.A) (hj : k ≤ j) (tk : Takes X W) (hg : Gl X x) (ha : JA X W G c1 (e :: es) t)
    (hdb : (x == ("__debug__" : Str)) = false := by decide) (he : starEach (e :: es) X.env = (false, eval e X.env) :: starEach es X.env := by rfl) (hpl : (backTo pos (starEach es X.env)).any (·.1) = false := by rfl) :
    JE X W G (c1 + c2) (.Call (.Name x p) (e :: es) [] pos) (rCallO sp ps.length t) := by
  obtain ⟨f, fd, F, hm, hk, hb⟩ := C
  refine peImp (pe_callG F (hr.mono hj) hg hm hk hb (fun σ => passAt tk σ) ha hdb he hpl) fun σ H Q h => ?_
  obtain ⟨n, Z, env, Q', E', p, w, t, q, x⟩ := h
  refine ⟨n, Z, env, _, E', p.left, w, t, fun ds vs fp Z1 H1 r1 o1 t1 => ?_, fun y cls da Z1 H1 r => x y cls da Z1 H1 r.up⟩
  have fr : ∀ a ∈ fp, a ∈ ([] : List Addr) ∨ H a = none := fun a m => r1.st.fn a m
  refine ⟨n + c1, Z1, ds, fp, Q', E', p.right r1, o1, t1.1, t1.2, fun d v f3 Z3 H3 s3 g3 o3 q3 => ?_, fun y cls da Z3 H3 s3 g3 xr e3 => ?_⟩
  · exact q d v f3 Z3 H3 ⟨r1.st.trans s3 fr, by rw [← Nat.add_assoc]; exact g3⟩ o3 q3
  · exact x y cls da Z3 H3 ⟨r1.st.trans s3 fr, by rw [← Nat.add_assoc]; exact g3⟩ xr e3
/-! an empty dict for keys that are tuples -/
theorem je_dnewT : JE X W G 0 (.Dict [] [] pos) (fun _ Q _ => Q (.dcT true [] [])) := peImp pe_dnewT fun σ H Q h => by
  obtain ⟨n, Z, env, Q', E', p, w, t, q, x⟩ := h
  intro l hl
  have g := p.gd.up (Nat.le_add_right n 0)
  refine q (.dcT true [] []) _ [l] Z _ ⟨Stp.new hl fun a m => .inr (by simpa using m), g.new hl⟩ ⟨⟨l, [], [], rfl, upd_same, ⟨rfl, List.nodup_nil⟩, ⟨rfl, rfl⟩, rfl⟩, List.nodup_cons.mpr ⟨(fun m => nomatch m), List.nodup_nil⟩, fun a m z => ?_, fun a m i => ?_⟩ t
  · have : a = l := by simpa using m
    subst this
    obtain ⟨u, e⟩ := p.gd.tr a z
    rw [hl] at e; cases e
  · have : a = l := by simpa using m
    subst this
    obtain ⟨u, e⟩ := p.gd.bag.tracked i
    rw [hl] at e; cases e
end
end TT

set_option Elab.async false
set_option linter.all false
set_option maxRecDepth 100000
set_option maxHeartbeats 1000000
namespace TT
open PySem PySem.Spec PyProof.Rows L2
/-! ### errors kept beyond their suite: which classes they are of -/
structure Ec (K : PySem.W.Frag) (mg : Str → Option Value) (er : Er K mg) : Prop where
  N : ∀ x, x ∈ erN → cnm K (er.C x) = some x
  un : ∀ C x, x ∈ erN → cnm K C = some x → C = er.C x
def tbX (y : Str) : List (Str × Bool) := erN.map fun x => (x, decide (x = y))
def tbA : List (Str × Bool) := erN.map fun x => (x, true)
theorem lkMemE {α β : Type} [BEq α] [LawfulBEq α] {a : α} {b : β} : ∀ {l : List (α × β)}, List.lookup a l = some b → (a, b) ∈ l
  | [], h => by cases h
  | (x, y) :: l, h => by
    rw [List.lookup_cons] at h
    by_cases e : a = x
    · subst e
      simp at h
      subst h
      exact List.mem_cons_self
    · have e2 : (a == x) = false := by simpa using e
      rw [e2] at h
      exact List.mem_cons_of_mem _ (lkMemE h)
theorem lk_mapE {f : Str → Bool} {cx : Str} {b : Bool} : ∀ {l : List Str}, List.lookup cx (l.map fun x => (x, f x)) = some b → cx ∈ l ∧ b = f cx := fun h => by
  have := lkMemE h
  obtain ⟨x, hx, e⟩ := List.mem_map.mp this
  cases e
  exact ⟨hx, rfl⟩
section
variable {K : PySem.W.Frag} {mg : Str → Option Value} {er : Er K mg}
theorem Ec.tabs (ec : Ec K mg er) (y : Str) (hy : y ∈ erN) : IsTab K (.ref (er.C y)) (tbX y) := ⟨fun cx b C hl hn => by
  obtain ⟨hx, eb⟩ := lk_mapE (f := fun x => decide (x = y)) hl
  have eC := ec.un C cx hx hn
  subst eC eb
  exact ⟨er.E cx hx, er.kt cx hx y hy⟩⟩
theorem Ec.tM (ec : Ec K mg er) : IsTab K (.ref er.M) tbA := ⟨fun cx b C hl hn => by
  obtain ⟨hx, eb⟩ := lk_mapE (f := fun _ => true) hl
  have eC := ec.un C cx hx hn
  subst eC eb
  exact ⟨er.E cx hx, er.kM cx hx⟩⟩
theorem Ec.tV (ec : Ec K mg er) : IsTab K (.type "ValueError") tbA := ⟨fun cx b C hl hn => by
  obtain ⟨hx, eb⟩ := lk_mapE (f := fun _ => true) hl
  have eC := ec.un C cx hx hn
  subst eC eb
  exact ⟨er.E cx hx, er.kV cx hx⟩⟩
theorem Ec.vK (ec : Ec K mg er) : ErrKs K erN := fun cx C hx hn => by
  have eC := ec.un C cx hx hn
  subst eC
  exact er.E cx hx
/-- every class of K with a name of these is the one that stands in cs -/
def erUn (K : PySem.W.Frag) (cs : List Addr) : Bool := K.all fun p => match cnm K p.1 with
  | some x => !(erN.contains x) || decide (p.1 = cs.getD (erN.idxOf x) 0)
  | none => true
theorem erUn_of {K : PySem.W.Frag} {cs : List Addr} (h : erUn K cs = true) (C : Addr) (x : Str) (hx : x ∈ erN) (e : cnm K C = some x) : C = cs.getD (erN.idxOf x) 0 := by
  have hm : ∃ o, List.lookup C K = some o := by
    unfold cnm at e
    cases hc : PySem.W.clsIn K C with
    | none => rw [hc] at e; cases e
    | some c =>
      unfold PySem.W.clsIn at hc
      cases hl : List.lookup C K with
      | none => rw [hl] at hc; cases hc
      | some o => exact ⟨o, rfl⟩
  obtain ⟨o, hl⟩ := hm
  have h1 := List.all_eq_true.mp h _ (lkMemE hl)
  dsimp only at h1
  rw [e] at h1
  dsimp only at h1
  rw [List.contains_iff_mem.mpr hx] at h1
  simpa using h1
theorem ec_of {K : PySem.W.Frag} {mg : Str → Option Value} (er : Er K mg) (cs : List Addr) (hC : ∀ x, er.C x = cs.getD (erN.idxOf x) 0) (N : ∀ k, k < 8 → cnm K (cs.getD k 0) = some (erNm k)) (un : erUn K cs = true) : Ec K mg er :=
  ⟨fun x hx => by
    rw [hC]
    obtain ⟨k, hk, rfl⟩ := er_in x hx
    rw [er_idx k hk]
    exact N k hk, fun C x hx e => by rw [hC]; exact erUn_of un C x hx e⟩
end
/-! a list that is a frame's own slot, its errors -/
theorem Ec.kept {X : Cx} {er : Er X.K X.mg} (ec : Ec X.K X.mg er) : ∀ y cls, exs erN y = some true → X.mg y = some cls → ∃ C, cls = .ref C ∧ cnm X.K C = some y := fun y cls hy hm => ⟨_, er.cls hy hm, ec.N y (erMem hy)⟩
end TT

set_option Elab.async false
set_option linter.all false
set_option maxRecDepth 100000
set_option maxHeartbeats 1000000
namespace TT
open PySem PySem.Spec PyProof.Rows L2
/-! ### dicts whose keys are pairs of numbers, as lists of pairs -/
abbrev Pr := Int × Int
def kk (p : Pr) : List Key := [.inl p.1, .inl p.2]
def pD (p : Pr) : D := .tup [.int p.1, .int p.2]
theorem kk_inj {p q : Pr} : kk p = kk q ↔ p = q := ⟨fun h => by
  unfold kk at h
  simp at h
  exact Prod.ext h.1 h.2, fun h => by rw [h]⟩
theorem keyD_pD (p : Pr) : keyD (pD p) = some (kk p) := rfl
theorem keyD_tup (a b : Int) : keyD (.tup [.int a, .int b]) = some (kk (a, b)) := rfl
theorem pD_kk (p : Pr) : D.tup ((kk p).map kD) = pD p := rfl
section
variable {α : Type}
def aput : List (Pr × α) → Pr → α → List (Pr × α)
  | [], p, v => [(p, v)]
  | x :: L, p, v => if x.1 = p then (x.1, v) :: L else x :: aput L p v
def aget : List (Pr × α) → Pr → Option α
  | [], _ => none
  | x :: L, p => if x.1 = p then some x.2 else aget L p
def aks (L : List (Pr × α)) : List (List Key) := L.map fun x => kk x.1
def ads (f : α → D) (L : List (Pr × α)) : List D := L.map fun x => f x.2
def adT (o : Bool) (f : α → D) (L : List (Pr × α)) : D := .dcT o (aks L) (ads f L)
theorem aks_len (L : List (Pr × α)) : (aks L).length = L.length := List.length_map ..
theorem ads_len (f : α → D) (L : List (Pr × α)) : (ads f L).length = L.length := List.length_map ..
theorem kk_mem {L : List (Pr × α)} {p : Pr} : kk p ∈ aks L ↔ ∃ x ∈ L, x.1 = p := by
  unfold aks
  rw [List.mem_map]
  exact ⟨fun ⟨x, m, e⟩ => ⟨x, m, kk_inj.mp e⟩, fun ⟨x, m, e⟩ => ⟨x, m, by rw [e]⟩⟩
theorem dput_aput (f : α → D) (p : Pr) (v : α) : ∀ L : List (Pr × α), dput (aks L) (ads f L) (kk p) (f v) = (aks (aput L p v), ads f (aput L p v))
  | [] => rfl
  | x :: L => by
    have ih := dput_aput f p v L
    unfold aput
    by_cases e : x.1 = p
    · rw [if_pos e]
      unfold dput
      have hm : kk p ∈ aks (x :: L) := kk_mem.mpr ⟨x, List.mem_cons_self, e⟩
      rw [if_pos hm]
      have hk : kix (kk p) (aks (x :: L)) = 0 := by
        show kix (kk p) (kk x.1 :: aks L) = 0
        unfold kix
        rw [if_pos (by rw [e])]
      rw [hk]
      rfl
    · rw [if_neg e]
      have hne : ¬ kk x.1 = kk p := fun z => e (kk_inj.mp z)
      unfold dput at ih ⊢
      by_cases hm : kk p ∈ aks L
      · have hm2 : kk p ∈ aks (x :: L) := List.mem_cons_of_mem _ hm
        rw [if_pos hm] at ih
        rw [if_pos hm2]
        have hk : kix (kk p) (aks (x :: L)) = kix (kk p) (aks L) + 1 := by
          show kix (kk p) (kk x.1 :: aks L) = _
          conv => lhs; unfold kix
          rw [if_neg hne]
        rw [hk]
        have i1 := congrArg Prod.fst ih
        have i2 := congrArg Prod.snd ih
        refine Prod.ext ?_ ?_
        · exact congrArg (kk x.1 :: ·) i1
        · exact congrArg (f x.2 :: ·) i2
      · have hm2 : kk p ∉ aks (x :: L) := fun z => (List.mem_cons.mp z).elim (fun z => hne z.symm) hm
        rw [if_neg hm] at ih
        rw [if_neg hm2]
        have i1 := congrArg Prod.fst ih
        have i2 := congrArg Prod.snd ih
        refine Prod.ext ?_ ?_
        · exact congrArg (kk x.1 :: ·) i1
        · exact congrArg (f x.2 :: ·) i2
theorem dlk_aget (f : α → D) (p : Pr) : ∀ L : List (Pr × α), dlk (kk p) (aks L) (ads f L) = (aget L p).map f
  | [] => rfl
  | x :: L => by
    show (if kk x.1 = kk p then some (f x.2) else dlk (kk p) (aks L) (ads f L)) = _
    unfold aget
    by_cases e : x.1 = p
    · rw [if_pos (by rw [e]), if_pos e]; rfl
    · rw [if_neg fun z => e (kk_inj.mp z), if_neg e, dlk_aget f p L]
theorem aget_aput (p q : Pr) (v : α) : ∀ L : List (Pr × α), aget (aput L p v) q = if q = p then some v else aget L q
  | [] => by
    unfold aput aget aget
    by_cases e : q = p
    · rw [if_pos e.symm, if_pos e]
    · rw [if_neg fun z => e z.symm, if_neg e]
  | x :: L => by
    unfold aput
    by_cases e : x.1 = p
    · rw [if_pos e]
      unfold aget
      by_cases e2 : x.1 = q
      · rw [if_pos e2, if_pos (by rw [← e2, e])]
      · rw [if_neg e2, if_neg fun z => e2 (by rw [e, z]), if_neg e2]
    · rw [if_neg e]
      unfold aget
      by_cases e2 : x.1 = q
      · rw [if_pos e2, if_neg fun z => e (by rw [e2, z]), if_pos e2]
      · rw [if_neg e2, if_neg e2, aget_aput p q v L]
theorem aput_len (p : Pr) (v : α) : ∀ L : List (Pr × α), (aput L p v).length ≤ L.length + 1
  | [] => Nat.le_refl _
  | x :: L => by
    unfold aput
    by_cases e : x.1 = p
    · rw [if_pos e]; simp
    · rw [if_neg e]
      have := aput_len p v L
      simp only [List.length_cons]
      omega
theorem aput_mem {p : Pr} {v : α} {x : Pr × α} : ∀ {L : List (Pr × α)}, x ∈ aput L p v → x ∈ L ∨ x = (p, v)
  | [], h => .inr (List.mem_singleton.mp h)
  | y :: L, h => by
    unfold aput at h
    by_cases e : y.1 = p
    · rw [if_pos e] at h
      rcases List.mem_cons.mp h with h | h
      · exact .inr (by rw [h, e])
      · exact .inl (List.mem_cons_of_mem _ h)
    · rw [if_neg e] at h
      rcases List.mem_cons.mp h with h | h
      · exact .inl (by rw [h]; exact List.mem_cons_self)
      · exact (aput_mem h).elim (fun z => .inl (List.mem_cons_of_mem _ z)) .inr
theorem itemsD_ad (f : α → D) : ∀ L : List (Pr × α), itemsD (aks L) (ads f L) = L.map fun x => .tup [pD x.1, f x.2]
  | [] => rfl
  | x :: L => congrArg (D.tup [pD x.1, f x.2] :: ·) (itemsD_ad f L)
theorem frzL_ads {f : α → D} (h : ∀ v, frz (f v) = f v) : ∀ L : List (Pr × α), frzL (ads f L) = ads f L
  | [] => rfl
  | x :: L => by
    show frz (f x.2) :: frzL (ads f L) = f x.2 :: ads f L
    rw [h, frzL_ads h L]
end
end TT

set_option Elab.async false
set_option linter.all false
set_option maxRecDepth 100000
set_option maxHeartbeats 1000000
namespace L2
open PySem PySem.Spec PyProof.Rows TT
/-! ### zip(text, tuple) -/
def ItZX (K : PySem.W.Frag) (x : Str) (a : Addr) : It where
  go := fun i H => ∃ vs : List V, SqT K H a vs ∧ i < x.cps.size ∧ i < vs.length
  yld := fun i H v H' => ∃ T c y, v = .ref T ∧ H T = none ∧ x.cps[i]? = some c ∧ (∀ ys, SqT K H a ys → ys[i]? = some y) ∧ H' = upd H T (.tup [.str ⟨#[c]⟩, y])
  stop := fun i H => ∃ vs : List V, SqT K H a vs ∧ i = min x.cps.size vs.length
theorem turn_zipX {P : Program} {w : World} {K : PySem.W.Frag} {elts : List Expr} {kk : Nat} {tpos : Pos} {N : Nat} (a : Addr) (la : a < N) (x : Str) (t : Tok) :
    Turn P w K (.Tuple elts kk tpos) (ItZX K x a) [N + 4, N + 2, N + 3, N, N + 1] (N + 4) (fun i h => IsZip h (N + 4) (N + 2) (N + 3) .none ∧ IsTupOf2 h (N + 2) (.ref N) (.ref (N + 1)) ∧ (∃ a1 a2, IsTupOf2 h (N + 3) a1 a2) ∧ h.IsStrIter N (strIterType x) x t i ∧ h.IsTupleIter (N + 1) a i) where
  mem := List.mem_cons_self
  obj := fun i h st c hc => by
    obtain ⟨hz, hTI, ⟨x0, y0, hTO⟩, ⟨o1, e1, _, d1⟩, ⟨o2, e2, _, d2⟩⟩ := st
    have e' : c = N + 4 ∨ c = N + 2 ∨ c = N + 3 ∨ c = N ∨ c = N + 1 := by simpa using hc
    rcases e' with q | q | q | q | q
    · rw [q]; exact ⟨_, hz, fun v q => nomatch q⟩
    · rw [q]; exact ⟨_, hTI, fun v q => nomatch q⟩
    · rw [q]; exact ⟨_, hTO, fun v q => nomatch q⟩
    · rw [q]; exact ⟨o1, e1, fun v q => by rw [d1] at q; cases q⟩
    · rw [q]; exact ⟨o2, e2, fun v q => by rw [d2] at q; cases q⟩
  keep := fun i h h' st k => by
    obtain ⟨hz, hTI, ⟨x0, y0, hTO⟩, ⟨o1, e1, q1⟩, h2⟩ := st
    exact ⟨k _ (by simp) _ hz, k _ (by simp) _ hTI, ⟨x0, y0, k _ (by simp) _ hTO⟩, ⟨o1, k _ (by simp) _ e1, q1⟩, h2.at fun o q => k _ (by simp) o q⟩
  item := fun X e1 e2 e3 calm i pins s σ H E I fp tn g => by
    subst e1 e2 e3
    have hh := I.ok.hd calm
    obtain ⟨vs, hq, ix, iv⟩ := g
    obtain ⟨its, rv, p, _⟩ := I.tuple hq
    have hl := rv.length
    have G := GoesN.zip2 (elts := elts) (x1 := kk) (pos := tpos) (zip_sep2 (N := N) (fp1 := []) (fp2 := [a]) (fun b m => nomatch m) (fun b m => by rw [List.mem_singleton.mp m]; exact la))
      (Draws.text (prog := X.prog) (w := X.w) (A := X.A.in1) hh N x t) (Draws.tuple (prog := X.prog) (w := X.w) (A := X.A.in1) hh (N + 1) a (Nat.ne_of_lt (Nat.lt_succ_of_lt la)) its.toArray)
    refine G.goes i s _ E (by simp; omega) ⟨tn.1, tn.2.1, tn.2.2.1, tn.2.2.2.1, tn.2.2.2.2, p⟩ fun v h' tk hY hS kp ht => ?_
    obtain ⟨T, xv, yv, rfl, hT, ⟨c, u, hc, rfl⟩, hy, hi⟩ := hY
    have fr : H T = none := HOk.fresh I.hok hT
    obtain ⟨y, hyv⟩ : ∃ y, vs[i]? = some y := ⟨vs[i], List.getElem?_eq_getElem iv⟩
    obtain ⟨u2, hu2, ru2⟩ := rv.get hyv
    have : u2 = yv := by
      have e1 : its[i]? = some yv := by simpa using hy
      rw [hu2] at e1
      exact Option.some.inj e1
    subst this
    have kp' : ∀ (b : Addr) (o : Obj), b ∉ [N + 4, N + 2, N + 3, N, N + 1] → s.heap.get? b = some o → h'.get? b = some o := fun b o nb e => kp b o (fun m => nb (by
      have e' : b = N + 4 ∨ b = N + 3 ∨ b = N ∨ b = N + 1 := by simpa using m
      rcases e' with q | q | q | q <;> rw [q] <;> simp)) e
    refine ⟨.ref T, upd H T (.tup [.str ⟨#[c]⟩, y]), Inv.turnedNew I kp' (fun b m => fp b m) hT ?_, rfl, ⟨T, c, y, rfl, fr, hc, fun ys hys => by rw [I.tuple_inj hys hq]; exact hyv, rfl⟩, ⟨hS.1, hS.2.1, hS.2.2.1, hS.2.2.2.1, hS.2.2.2.2.1⟩, fun b m => ?_⟩
    · unfold ObjOk
      exact ⟨by show 2 ≤ sizeLine; decide, _, .cons ⟨_, rfl⟩ (.cons ru2 .nil), hi⟩
    · rw [upd_ne fun z => ?_]
      · exact (fp b m).1
      · subst z
        obtain ⟨hz, hTI, ⟨x0, y0, hTO⟩, ⟨o1, e1, _, d1⟩, ⟨o2, e2, _, d2⟩⟩ := tn
        have lb : b < s.heap.objs.size := by
          have e' : b = N + 4 ∨ b = N + 2 ∨ b = N + 3 ∨ b = N ∨ b = N + 1 := by simpa using m
          rcases e' with q | q | q | q | q
          · rw [q]; exact Heap.lt_size hz
          · rw [q]; exact Heap.lt_size hTI
          · rw [q]; exact Heap.lt_size hTO
          · rw [q]; exact Heap.lt_size e1
          · rw [q]; exact Heap.lt_size e2
        exact Nat.lt_irrefl _ (Nat.lt_of_lt_of_le lb hT)
  done := fun X e1 e2 e3 calm i pins s σ H E I fp tn g => by
    subst e1 e2 e3
    have hh := I.ok.hd calm
    obtain ⟨vs, hq, ei⟩ := g
    obtain ⟨its, rv, p, _⟩ := I.tuple hq
    have hl := rv.length
    have G := GoesN.zip2 (elts := elts) (x1 := kk) (pos := tpos) (zip_sep2 (N := N) (fp1 := []) (fp2 := [a]) (fun b m => nomatch m) (fun b m => by rw [List.mem_singleton.mp m]; exact la))
      (Draws.text (prog := X.prog) (w := X.w) (A := X.A.in1) hh N x t) (Draws.tuple (prog := X.prog) (w := X.w) (A := X.A.in1) hh (N + 1) a (Nat.ne_of_lt (Nat.lt_succ_of_lt la)) its.toArray)
    have ei' : i = min x.cps.size its.toArray.size := by rw [ei]; simp; omega
    subst ei'
    refine G.stops s _ E ⟨tn.1, tn.2.1, tn.2.2.1, tn.2.2.2.1, tn.2.2.2.2, p⟩ fun h' tk kp ht => ?_
    exact Inv.turnedL I (ch := [N + 4, N + 2, N + 3, N, N + 1]) (fun b o nb e => kp b o (fun m => nb (by
      have e' : b = N + 4 ∨ b = N + 3 ∨ b = N ∨ b = N + 1 := by simpa using m
      rcases e' with q | q | q | q <;> rw [q] <;> simp)) e) fp
  self := fun A i s Q E tn q => wpAny_pyIter_zip tn.1 q
section
variable {X : Cx} {e e2 : Expr} {ta : TA} {p pos tpos : Pos} {elts : List Expr} {kk : Nat}
theorem pi_zipX (hg : Gl X "zip") (hm : X.mg "zip" = none) (ha : PA X [e, e2] ta)
    (hs : starEach [e, e2] X.env = (false, eval e X.env) :: starEach [e2] X.env := by rfl) (hpl : (backTo pos (starEach [e2] X.env)).any (·.1) = false := by rfl) :
    PI X (.Tuple elts kk tpos) (.Call (.Name "zip" p) [e, e2] [] pos) (fun σ H R => ta σ H fun vs H1 => ∃ x a ys, vs = [.str x, .ref a] ∧ SqT X.K H1 a ys ∧ R (ItZX X.K x a) H1) := by
  refine ⟨fun pins s σ H R I h => ?_⟩
  refine Call_ (ld_blt I hg hm PyProof.Rows.boot_zip (PyProof.Rows.callWith_type1 (thn (ha.run pos pins s σ H _ I h) fun us s1 ⟨vs, H1, I1, r1, q1⟩ => ?_) hs hpl))
  obtain ⟨x, a, ys, ex, hq, q⟩ := q1
  subst ex
  cases r1 with
  | cons r rr =>
    cases rr with
    | cons r' rr =>
      cases rr
      obtain ⟨t, rfl⟩ := r
      cases r'
      obtain ⟨its, rv, p1, _⟩ := I1.tuple hq
      have p2 : s1.heap.IsTuple a its.toArray := p1
      have la : a < s1.heap.objs.size := p1.lt
      refine zip_begins2 (begins_text x t) (begins_tuple a its.toArray) trivial p2 fun h' hz hTI hTO h1 h2 hsz hk => wpAny_pyIter_zip hz ?_
      have I2 : Inv X pins σ H1 { s1 with heap := h' } := I1.kept (t' := s1.toks) hk
      refine ⟨s1.heap.objs.size + 4, [s1.heap.objs.size + 4, s1.heap.objs.size + 2, s1.heap.objs.size + 3, s1.heap.objs.size, s1.heap.objs.size + 1], _, _, H1, rfl, I2, turn_zipX a la x t, ⟨hz, hTI, ⟨_, _, hTO⟩, ⟨_, h1, rfl, rfl⟩, ⟨_, h2, rfl, rfl⟩⟩, fun c hcm => ?_, q⟩
      have e' : c = s1.heap.objs.size + 4 ∨ c = s1.heap.objs.size + 2 ∨ c = s1.heap.objs.size + 3 ∨ c = s1.heap.objs.size ∨ c = s1.heap.objs.size + 1 := by simpa using hcm
      have hle : s1.heap.objs.size ≤ c := by
        rcases e' with z | z | z | z | z
        · rw [z]; exact Nat.le_add_right _ _
        · rw [z]; exact Nat.le_add_right _ _
        · rw [z]; exact Nat.le_add_right _ _
        · rw [z]; exact Nat.le_refl _
        · rw [z]; exact Nat.le_add_right _ _
      exact I1.fpOk hle (I1.hok.fresh hle)
end
end L2
namespace TT
open PySem PySem.Spec PyProof.Rows L2
def zipD (xs ys : List D) : List D := List.zipWith (fun a b => D.tup [a, b]) xs ys
theorem zipD_len (xs ys : List D) : (zipD xs ys).length = min xs.length ys.length := List.length_zipWith
theorem zipD_at {xs ys : List D} {i : Nat} {d : D} (h : (zipD xs ys)[i]? = some d) : ∃ a b, xs[i]? = some a ∧ ys[i]? = some b ∧ d = .tup [a, b] := by
  unfold zipD at h
  rw [List.getElem?_zipWith] at h
  split at h
  · rename_i a b ea eb
    exact ⟨a, b, ea, eb, (Option.some.inj h).symm⟩
  · cases h
/-- zip of two lists; of a text and a tuple -/
def iZipL : List D → (List D → Prop) → Prop := fun ds Q => match ds with
  | [.lst _ xs, .lst _ ys] => Q (zipD (frzL xs) (frzL ys))
  | _ => False
def iZipX : List D → (List D → Prop) → Prop := fun ds Q => match ds with
  | [.str x, .tup ys] => Q (zipD (strD x) (frzL ys))
  | _ => False
def riZip (ta : RA) : RI := fun env Q E => ta env (fun ds => iZipL ds Q) E
def riZipX (ta : RA) : RI := fun env Q E => ta env (fun ds => iZipX ds Q) E
section
variable {X : Cx} {W : WX} {G : Bg} {c : Nat} {e e2 : Expr} {pos p tpos : Pos} {elts : List Expr} {kk : Nat} {ta : RA}
theorem rpLab {K : PySem.W.Frag} {Z : Zs} {H : Hp} {d d' : D} {v v' : V} (r : Rp K G Z H d v []) (r' : Rp K G Z H d' v' []) : RpL K G Z H [d, d'] [v, v'] [] := ⟨v, [v'], [], [], rfl, r, ⟨v', [], [], [], rfl, r', ⟨rfl, rfl⟩, rfl⟩, rfl⟩
theorem wlk_zip {K : PySem.W.Frag} {Z : Zs} {H : Hp} {a b : Addr} {vs ws : List V} {ds es : List D} (h : H a = some (.lst vs)) (z : Z a) (r : RpL K G Z H ds vs []) (h2 : H b = some (.lst ws)) (z2 : Z b) (r2 : RpL K G Z H es ws []) : Wlk K G (Itz K a b) (zipD ds es) Z H where
  go := fun Z2 H2 i l hi => by
    rw [zipD_len] at hi
    exact ⟨vs, ws, vs[i]'(by rw [r.len]; omega), ws[i]'(by rw [r2.len]; omega), sqLLater l h z, sqLLater l h2 z2, List.getElem?_eq_getElem _, List.getElem?_eq_getElem _⟩
  yl := fun Z2 H2 n i x H' d l g hd hy => by
    obtain ⟨T, x0, y0, e, hT, eH, f, f2⟩ := hy
    subst e eH
    obtain ⟨da, db, ha, hb, ed⟩ := zipD_at hd
    subst ed
    obtain ⟨v, e1, rp⟩ := r.get0 ha
    obtain ⟨v2, e2, rp2⟩ := r2.get0 hb
    have q := f vs (sqLLater l h z)
    rw [e1] at q
    cases q
    have q2 := f2 ws (sqLLater l h2 z2)
    rw [e2] at q2
    cases q2
    exact ⟨Stp.fresh hT, g.new hT, T, _, rfl, upd_same, rpLab (rp_upd (rpLater l rp) hT) (rp_upd (rpLater l rp2) hT)⟩
  st := fun Z2 H2 l => ⟨vs, ws, sqLLater l h z, sqLLater l h2 z2, by
    rw [r.len, r2.len, zipD_len]
    omega⟩
theorem ji_zip (hg : Gl X "zip") (hm : X.mg "zip" = none) (ha : JA X W G c [e, e2] ta) (hs : starEach [e, e2] X.env = (false, eval e X.env) :: starEach [e2] X.env := by rfl) (hpl : (backTo pos (starEach [e2] X.env)).any (·.1) = false := by rfl) :
    JI X W G c (.Tuple elts kk tpos) (.Call (.Name "zip" p) [e, e2] [] pos) (riZip ta) := piImp (pi_zip hg hm ha hs hpl) fun σ H R h => by
  obtain ⟨n, Z, env, Q', E', pr, w, t, q, x⟩ := h
  refine ⟨n, Z, env, _, E', pr, w, t, fun ds us fp Z1 H1 r1 o1 t1 => ?_, x⟩
  unfold iZipL at t1
  split at t1
  · rename_i ow xs ow2 ys
    obtain ⟨g2, o2, s2⟩ := o1.share r1.gd
    have r2 := r1.op s2 g2
    obtain ⟨v, us', f1, f2, ev, o3, o4, ef⟩ := o2
    obtain ⟨v', us'', f3, f4, ev', o5, o6, ef'⟩ := o4
    have e6 : us'' = [] := o6.1
    have e7 : f1 = [] ∧ f2 = [] := List.append_eq_nil_iff.mp ef.symm
    have e8 : f3 = [] ∧ f4 = [] := List.append_eq_nil_iff.mp (ef'.symm.trans e7.2)
    obtain ⟨rfl, _⟩ := e7
    obtain ⟨rfl, _⟩ := e8
    subst e6 ev' ev
    obtain ⟨a, vs, ea, hr, hz, rr, _⟩ := o3
    obtain ⟨b, ws, eb, hr2, hz2, rr2, _⟩ := o5
    exact ⟨a, b, vs, ws, by rw [ea, eb], .inl (.inl hr), .inl (.inl hr2), q _ _ _ H1 r2 (wlk_zip hr hz rr hr2 hz2 rr2) t1⟩
  · exact t1.elim
theorem wlk_zipX {K : PySem.W.Frag} {Z : Zs} {H : Hp} {a : Addr} {x : Str} {vs : List V} {ds : List D} (h : SqT K H a vs) (r : RpL K G Z H ds vs []) : Wlk K G (ItZX K x a) (zipD (strD x) ds) Z H where
  go := fun Z2 H2 i l hi => by
    rw [zipD_len, strD_len] at hi
    exact ⟨vs, sqTLater l h, by omega, by rw [r.len]; omega⟩
  yl := fun Z2 H2 n i v H' d l g hd hy => by
    obtain ⟨T, ch, y0, e, hT, hc, f, eH⟩ := hy
    subst e eH
    obtain ⟨da, db, ha, hb, ed⟩ := zipD_at hd
    subst ed
    have : da = .str ⟨#[ch]⟩ := by
      unfold strD at ha
      rw [List.getElem?_map, Array.getElem?_toList, hc] at ha
      exact (Option.some.inj ha).symm
    subst this
    obtain ⟨v, e1, rp⟩ := r.get0 hb
    have q := f vs (sqTLater l h)
    rw [e1] at q
    cases q
    exact ⟨Stp.fresh hT, g.new hT, T, _, rfl, upd_same, rpLab ⟨rfl, rfl⟩ (rp_upd (rpLater l rp) hT)⟩
  st := fun Z2 H2 l => ⟨vs, sqTLater l h, by rw [r.len, zipD_len, strD_len]⟩
theorem ji_zipX (hg : Gl X "zip") (hm : X.mg "zip" = none) (ha : JA X W G c [e, e2] ta) (hs : starEach [e, e2] X.env = (false, eval e X.env) :: starEach [e2] X.env := by rfl) (hpl : (backTo pos (starEach [e2] X.env)).any (·.1) = false := by rfl) :
    JI X W G c (.Tuple elts kk tpos) (.Call (.Name "zip" p) [e, e2] [] pos) (riZipX ta) := piImp (pi_zipX hg hm ha hs hpl) fun σ H R h => by
  obtain ⟨n, Z, env, Q', E', pr, w, t, q, x⟩ := h
  refine ⟨n, Z, env, _, E', pr, w, t, fun ds us fp Z1 H1 r1 o1 t1 => ?_, x⟩
  unfold iZipX at t1
  split at t1
  · rename_i z ys
    obtain ⟨g2, o2, s2⟩ := o1.share r1.gd
    have r2 := r1.op s2 g2
    obtain ⟨v, us', f1, f2, ev, o3, o4, ef⟩ := o2
    obtain ⟨v', us'', f3, f4, ev', o5, o6, ef'⟩ := o4
    have e6 : us'' = [] := o6.1
    have e7 : f1 = [] ∧ f2 = [] := List.append_eq_nil_iff.mp ef.symm
    have e8 : f3 = [] ∧ f4 = [] := List.append_eq_nil_iff.mp (ef'.symm.trans e7.2)
    obtain ⟨rfl, _⟩ := e7
    obtain ⟨rfl, _⟩ := e8
    subst e6 ev' ev
    obtain ⟨ea, _⟩ := o3
    obtain ⟨b, ws, eb, hr2, rr2⟩ := o5
    exact ⟨z, b, ws, by rw [ea, eb], .inl (.inl hr2), q _ _ _ H1 r2 (wlk_zipX (.inl (.inl hr2)) rr2) t1⟩
  · exact t1.elim
end
/-! ### xs[i - k] = e -/
def ixS (j : Nat) (c : Int) : Ev → Option Int := fun env => match env[j]? with
  | some (some (.int k)) => some (k - c)
  | _ => none
section
variable {X : Cx} {W : WX} {G : Bg} {c : Nat} {e o ie : Expr} {pos ipos : Pos}
theorem js_putS {i j : Nat} {m : Int} {t : RM} (ho : PE X o (tVar i)) (hi : PE X ie (tOp (rI0 fun i j => .int (i - j)) (tVar j) (tC (.int m)))) (he : JM X W G c e t) (h1 : swapsWithSole [.Subscript o ie ipos] e pos.line X.env = pure false := by rfl) (h2 : swappedStores [.Subscript o ie ipos] e X.env = pure none := by rfl)
    (h3 : List.map (fun x => x.snd) (assignEach [.Subscript o ie ipos] X.env) = [assign (.Subscript o ie ipos) X.env] := by rfl)
    (h4 : ∀ (v : Value), assign (.Subscript o ie ipos) X.env v = (do
                let ov ← holding [v] (eval o X.env)
                let iv ← holding [v, ov] (eval ie X.env)
                standAt ipos
                holding [v, ov, iv] (setItem ov iv v)
                release [v, ov, iv] []) := by intro _; rfl) :
    JS X W G c (.Assign [.Subscript o ie ipos] e pos) (rPut i (ixS j m) t) := psImp (ps_asg he (pg_sub ho hi set_list h4) h1 h2 h3) fun Dn σ H h => by
  obtain ⟨n, Z, env, F, P, l, s, t, qn, qb, qc, qr, qx⟩ := h
  refine ⟨n, Z, env, F, _, _, l, s, t, fun d v fp Z1 env1 F1 H1 s1 o1 ap st t1 => ?_, fun x cls da Z1 env1 F1 H1 e1 xr t1 => qx x cls da Z1 env1 σ H1 F1 e1 xr t1⟩
  split at t1
  · rename_i ds k hx hk
    split at t1
    · rename_i q hq
      obtain ⟨a, vs, F2, es, ha, lv, sd⟩ := list_put s1 st hx o1 ap t1.1
      unfold ixS at hk
      split at hk
      · rename_i k' hj
        cases hk
        obtain ⟨vj, fj, ej, _, rj⟩ := s1.at_ j _ hj
        have evj : vj = .int k' := rj.1
        subst evj
        exact ⟨.ref a, es, .int k', ej, k', m, rfl, rfl, a, vs, k' - m, q, rfl, rfl, ha, by rw [lv]; exact hq, qn Z1 _ σ _ F2 sd t1.2⟩
      · cases hk
    · exact t1.elim
  · exact t1.elim
end
end TT

set_option Elab.async false
set_option linter.all false
set_option maxRecDepth 100000
set_option maxHeartbeats 1000000
namespace L2
open PySem PySem.Spec PyProof.Rows TT
/-! ### the truth of a dict with tuple keys -/
section
variable {prog : Program} {w : World} {A : Around} {E : Value → Shared → Prop} {s : Shared}
theorem meets_len_raw {d : Addr} {es : Array DictEntry} {ep : Nat} (hd : (d == sysModules) = false) :
    MeetsIn prog w (Builtin.«dict.__len__» ⟨[.ref d], []⟩) (fun _ R s => DT.Raw s.heap d es ep ∧ R (.ok (.ret (.int es.size s.toks))) { s with toks := s.toks + 1 }) :=
  .of_wp fun A R s ⟨hm, h⟩ => by
    obtain ⟨o, ho, hc, hdat⟩ := hm
    show wpAny _ _ (dictSize d >>= _) _ _ s
    unfold dictSize
    refine wpAny_bind (wpAny_bind (wpAny_dictEntries ho hdat (wpAny_pure ?_)))
    show wpAny _ _ (Builtin.Dict.pendingCount d >>= _) _ _ s
    refine wpAny_bind (wpAny_pendingCount_other hd ?_)
    refine wpAny_ret_mkInt ?_
    rw [Nat.add_zero]; exact h
theorem len_body_raw {d : Addr} {es : Array DictEntry} {ep : Nat} {Q : Value → Shared → Prop} (hd : (d == sysModules) = false) (hm : DT.Raw s.heap d es ep) (hfit : (es.size : Int) < 2 ^ 63)
    (h : Q (.int es.size (s.toks + 1)) { s with toks := s.toks + 1 + 1 }) : wpAny (model prog w) A (Builtin.«len» ⟨[.ref d], []⟩) (fun fin s' => ∃ r, fin = .done (.ret r) ∧ Q r s') E s := by
  unfold Builtin.«len»
  refine wpAny_bind (m := oneArg "len" _) (wpAny_pure ?_)
  refine wpAny_bind (m := callSpecial? (.ref d) (Str.ofString "__len__")) (wpAny_callSpecial?_slot (name := Str.ofString "__len__") hm.typeIs PySem.F.slot_dict_len
    (call_meetsIn PySem.F.slot_dict_len hm.typeIs PySem.F.entry_dict_len (PySem.F.args_dict_len_1 _) (meets_len_raw (es := es) (ep := ep) hd) ⟨hm, ?_⟩))
  show wpAny _ _ _ _ _ { s with toks := s.toks + 1 }
  refine wpAny_bind (wpAny_holding (wpAny_pure ?_))
  refine wpAny_bind (wpAny_letGo ?_)
  show wpAny _ _ (if ((es.size : Nat) : Int) < 0 then _ else _) _ _ _
  rw [if_neg (by omega)]
  show wpAny _ _ (if ((es.size : Nat) : Int) ≥ 2 ^ 63 then _ else _) _ _ _
  rw [if_neg (by omega)]
  exact wpAny_bind (wpAny_mkInt (wpAny_pure ⟨_, rfl, h⟩))
theorem truthy_raw {d : Addr} {es : Array DictEntry} {ep : Nat} {Q : Bool → Shared → Prop} (hd : (d == sysModules) = false) (hm : DT.Raw s.heap d es ep) (hfit : (es.size : Int) < 2 ^ 63)
    (h : Q (decide (es.size ≠ 0)) { s with toks := s.toks + 1 + 1 }) : wpAny (model prog w) A (truthy (.ref d)) Q E s := by
  have hne : ((es.size : Int) != 0) = decide (es.size ≠ 0) := by
    cases he : es.size with
    | zero => rfl
    | succ n =>
      have : ((n + 1 : Nat) : Int) ≠ 0 := by omega
      have e1 : (((n + 1 : Nat) : Int) != 0) = true := bne_iff_ne.mpr this
      rw [e1]
      simp
  have key : wpAny (model prog w) A (runValue (.builtin "len" ⟨[.ref d], []⟩)) (fun r s' => r = .int es.size (s.toks + 1) ∧ Q (decide (es.size ≠ 0)) s') E s := by
    refine wpAny_runValue (codeAny_builtin entry_len ?_)
    rw [Around.under_plainId plain_len _]
    exact wpAny_mono (len_body_raw (Q := fun r s' => r = .int es.size (s.toks + 1) ∧ Q (decide (es.size ≠ 0)) s') hd hm hfit ⟨rfl, h⟩)
      (fun fin s' h' => by obtain ⟨r, rfl, hq⟩ := h'; exact hq) fun _ _ e => e
  unfold truthy
  first
    | refine wpAny_bind (wpAny_callSpecial?_none (name := Str.ofString "__bool__") hm.typeIs noBool_dict ?_)
    | refine wpAny_bind (wpAny_pure (wpAny_bind (wpAny_callSpecial?_none (name := Str.ofString "__bool__") hm.typeIs noBool_dict ?_)))
  first
    | refine wpAny_bind (wpAny_specialOf (name := Str.ofString "__len__") hm.typeIs PySem.F.slot_dict_len.lookup ?_)
    | refine wpAny_bind (wpAny_pure (wpAny_bind (wpAny_specialOf (name := Str.ofString "__len__") hm.typeIs PySem.F.slot_dict_len.lookup ?_)))
  first
    | exact wpAny_bind (wpAny_mono key (fun r s' h' => by obtain ⟨rfl, hq⟩ := h'; exact wpAny_pure (hne ▸ hq)) fun _ _ e => e)
    | exact wpAny_bind (wpAny_pure (wpAny_bind (wpAny_mono key (fun r s' h' => by obtain ⟨rfl, hq⟩ := h'; exact wpAny_pure (hne ▸ hq)) fun _ _ e => e)))
end
def TruD (K : PySem.W.Frag) (x : V) (H : Hp) (k : Bool) : Prop := TruV K x H k ∨ ∃ p kvs, x = .ref p ∧ Rd H p (.dT kvs) ∧ k = !kvs.isEmpty
section
variable {X : Cx} {a : Expr} {ta : TE}
theorem Inv.rawT {pins : List (Addr × Obj)} {σ : L2.St} {H : Hp} {s : Shared} {d : Addr} {kvs : List (List Key × V)} (I : Inv X pins σ H s) (h : Rd H d (.dT kvs)) :
    (d == sysModules) = false ∧ kvs.length ≤ sizeLine ∧ ∃ (es : Array DictEntry) (ep : Nat), DT.Raw s.heap d es ep ∧ es.size = kvs.length := by
  rcases h with h | ⟨o, h⟩
  · obtain ⟨z, hs, xs, pr, o', es, ep, ho, hx, hdt, he, _⟩ := I.hok d _ h
    have l1 : es.size = xs.length := size_of_entries he
    have l2 : kvs.length = xs.length := Paired.length pr
    exact ⟨hs, z, es, ep, ⟨o', ho, hx, hdt⟩, by omega⟩
  · obtain ⟨hd, z, hs, xs, pr, o', es, ep, ho, hx, hdt, he, _⟩ := I.hok d _ h
    have l1 : es.size = xs.length := size_of_entries he
    have l2 : kvs.length = xs.length := Paired.length pr
    exact ⟨hs, z, es, ep, ⟨o', ho, hx, hdt⟩, by omega⟩
theorem tru_okD : TruR X (fun x H Q => ∃ k, TruD X.K x H k ∧ Q k H) := by
  intro pins s σ H x v Q I rx h
  obtain ⟨k, e, q⟩ := h
  rcases e with e | ⟨p, kvs, rfl, e, rfl⟩
  · exact tru_ok pins s σ H x v Q I rx ⟨k, e, q⟩
  · cases rx
    obtain ⟨hs, hz, es, ep, hm, hl⟩ := I.rawT e
    have h63 := line63
    refine truthy_raw hs hm (by omega) ⟨H, I.tok _, ?_⟩
    have : decide (es.size ≠ 0) = !kvs.isEmpty := by
      rw [hl]
      cases kvs <;> simp
    rw [this]
    exact q
theorem pt_truthD (ha : PE X a ta) (he : ∀ whole, isTrue a X.env whole = (do let v ← whole; standAt a.pos; holding [v] (truthy v))) :
    PT X a (fun σ H Q => ta σ H fun x H' => ∃ k, TruD X.K x H' k ∧ Q k H') := by
  refine ⟨fun pins s σ H Q I h => ?_⟩
  exact isTrue_plain (thn (ha.run pins s σ H _ I h) fun v s1 ⟨x, H1, I1, r1, q1⟩ => tru_okD pins s1 σ H1 x v Q I1 r1 q1) (he _)
end
end L2
namespace TT
open PySem PySem.Spec PyProof.Rows L2
def gTruD : D → (Bool → Prop) → Prop := fun d Q => match d with
  | .dcT false ks ds => Q (!ks.isEmpty)
  | d => gTru d Q
section
variable {X : Cx} {W : WX} {G : Bg} {c : Nat} {a e : Expr} {ta t : RE}
theorem gTruD_v {K : PySem.W.Frag} {Z : Zs} {H : Hp} {d : D} {v : V} {fp : List Addr} {Q' : Bool → Prop} (o : Ob K G Z H d v fp) (t : gTruD d Q') : ∃ k, TruD K v H k ∧ Q' k := by
  unfold gTruD at t
  split at t
  · rename_i ks ds
    obtain ⟨p, vs, e1, hp, ⟨hl, _⟩, _⟩ := o.rp
    refine ⟨_, .inr ⟨p, _, e1, hp, rfl⟩, ?_⟩
    have : (!(ks.zip vs).isEmpty) = !ks.isEmpty := by
      cases ks <;> cases vs <;> first | rfl | simp at hl
    rw [this]
    exact t
  · obtain ⟨k, e, q⟩ := gTru_v o t
    exact ⟨k, .inl e, q⟩
def rTruD (ta : RE) : RT := fun env Q E => ta env (fun d => gTruD d Q) E
theorem jt_eD (ha : JE X W G c a ta) (he : ∀ whole, isTrue a X.env whole = (do let v ← whole; standAt a.pos; holding [v] (truthy v)) := by intro _; rfl) : JT X W G c a (rTruD ta) := ptImp (pt_truthD ha he) fun σ H Q h => by
  obtain ⟨n, Z, env, Q', E', p, w, t, q, x⟩ := h
  refine ⟨n, Z, env, _, E', p, w, t, fun d v fp Z1 H1 r1 o1 t1 => ?_, x⟩
  obtain ⟨k, e1, e2⟩ := gTruD_v o1 t1
  exact ⟨k, e1, q k Z1 H1 r1.nofp e2⟩
/-! ### what is made is shared at once -/
def rFrz (t : RE) : RE := fun env Q E => t env (fun d => Q (frz d)) E
theorem je_frz (h : JE X W G c e t) : JE X W G c e (rFrz t) := peImp h fun σ H Q h => by
  obtain ⟨n, Z, env, Q', E', p, w, t, q, x⟩ := h
  refine ⟨n, Z, env, _, E', p, w, t, fun d v fp Z1 H1 r1 o1 t1 => ?_, x⟩
  obtain ⟨g2, o2, s2⟩ := o1.share r1.gd
  exact q (frz d) v [] _ _ (r1.op s2 g2) ⟨o2, List.nodup_nil, (fun _ m => nomatch m), (fun _ m => nomatch m)⟩ t1
end
end TT

set_option Elab.async false
set_option linter.all false
set_option maxRecDepth 100000
namespace TT
open PySem PySem.Spec PyProof.Rows L2
/-! mark = marks[level], and what is done through this second name -/
section
variable {K : PySem.W.Frag} {G : Bg} {n c : Nat} {Z : Zs} {H : Hp} {env : Ev} {σ : L2.St} {F : List (List Addr)}
theorem Stt.ghost {i : Nat} (s : Stt K G n Z H env σ F) (h : env[i]? = some none) (o : Option V) : Stt K G n Z H env (σ.set i o) F where
  gd := s.gd
  len := by rw [List.length_set]; exact s.len
  lenF := s.lenF
  at_ := fun j d hj => by
    have ne : i ≠ j := fun e => by rw [← e, h] at hj; cases hj
    rw [List.getElem?_set_ne ne]
    exact s.at_ j d hj
  nd := s.nd
  nz := s.nz
  nb := s.nb
  mt := s.mt
theorem RpL.two {a b : Int} {vs : List V} {f : List Addr} (r : RpL K G Z H [.int a, .int b] vs f) : vs = [.int a, .int b] ∧ f = [] := by
  obtain ⟨v1, v2, f1, f2, e1, ⟨r1, g1⟩, r2, e2⟩ := r
  obtain ⟨u1, u2, f3, f4, e3, ⟨r3, g3⟩, r4, e4⟩ := r2
  obtain ⟨e5, e6⟩ := r4
  subst e1 e2 e3 e4 e5 e6 r1 g1 r3 g3
  exact ⟨rfl, rfl⟩
theorem rp_two {a b : Int} {p : Addr} (h : H p = some (.lst [.int a, .int b])) : Rp K G Z H (.lst true [.int a, .int b]) (.ref p) [p] :=
  ⟨p, _, [], rfl, h, ⟨_, _, [], [], rfl, ⟨rfl, rfl⟩, ⟨_, _, [], [], rfl, ⟨rfl, rfl⟩, ⟨rfl, rfl⟩, rfl⟩, rfl⟩, rfl⟩
theorem nest_mark {ds : List D} {i q : Nat} {a b : Int} (s1 : Stt K G n Z H env σ F) (h1 : env[i]? = some (some (.lst true ds))) (hq : ds[q]? = some (.lst true [.int a, .int b])) :
    ∃ p vs a0, σ[i]? = some (some (.ref p)) ∧ H p = some (.lst vs) ∧ vs[q]? = some (.ref a0) ∧ H a0 = some (.lst [.int a, .int b]) ∧ ¬ Z a0 ∧
      ∀ (H' : Hp) (a' b' : Int), (∀ b u, H b = some u → b ≠ a0 → H' b = some u) → H' a0 = some (.lst [.int a', .int b']) →
        ∃ F2, Send K G n 0 Z H F.flatten Z (env.set i (some (.lst true (ds.set q (.lst true [.int a', .int b']))))) σ H' F2 := by
  obtain ⟨v1, fp1, e3, e4, rp1⟩ := s1.at_ i _ h1
  obtain ⟨p, vs, f, ev1, ha1, rl, ef⟩ := rp1
  subst ef ev1
  obtain ⟨v0, f0, fL, fR, hv0, r0, ef, put⟩ := RpL.pick ds vs f q _ rl hq
  obtain ⟨a0, us, f00, ev0, ha0, ru, ef0⟩ := r0
  obtain ⟨eu, ef00⟩ := ru.two
  subst eu ef00 ev0 ef0 ef
  obtain ⟨nd1, ap1⟩ := flat_drop F i _ e4 s1.nd
  have inF : ∀ b ∈ p :: (fL ++ ([a0] ++ fR)), b ∈ F.flatten := memF e4
  have m0 : a0 ∈ p :: (fL ++ ([a0] ++ fR)) := by simp
  have nd2 := List.nodup_cons.mp nd1
  have nd3 := List.nodup_append.mp nd2.2
  have nd4 := List.nodup_append.mp nd3.2.1
  have n1 : a0 ∉ fL := fun m => nd3.2.2 a0 m a0 (by simp) rfl
  have n2 : a0 ∉ fR := fun m => nd4.2.2 a0 List.mem_cons_self a0 m rfl
  have n4 : a0 ≠ p := fun e => nd2.1 (by rw [← e]; simp)
  have nZ : ¬ Z a0 := s1.nz a0 (inF a0 m0)
  refine ⟨p, vs, a0, e3, ha1, hv0, ha0, nZ, fun H' a' b' kk h0 => ?_⟩
  have kR : ∀ (fx : List Addr), a0 ∉ fx → ∀ b u, H b = some u → (¬ Mut (some u) ∨ Z b ∨ b ∈ fx) → H' b = some u := fun fx hx b u hb cs => by
    refine kk b u hb fun e => ?_
    subst e
    rcases cs with cs | cs | cs
    · rw [ha0] at hb; cases hb; exact cs trivial
    · exact nZ cs
    · exact hx cs
  have thU : ∀ b u, H b = some u → ∃ u', H' b = some u' := fun b u hb => by
    by_cases hba : b = a0
    · subst hba; exact ⟨_, h0⟩
    · exact ⟨u, kk b u hb hba⟩
  have kU : ∀ b u, H b = some u → b ∉ [a0] → H' b = some u := fun b u hb nb => kk b u hb fun e => nb (by simp [e])
  have r3 := put _ _ _ (kR (fL ++ fR) fun m => (List.mem_append.mp m).elim n1 n2) (rp_two (a := a') (b := b') h0)
  have oN : Ob K G Z H' (.lst true (ds.set q (.lst true [.int a', .int b']))) (.ref p) (p :: (fL ++ ([a0] ++ fR))) :=
    ⟨⟨p, vs, _, rfl, kk p _ ha1 n4.symm, r3, rfl⟩, nd1, fun b m => s1.nz b (inF b m), fun b m => s1.nb b (inF b m)⟩
  have sN := s1.mutate (H' := H') (M := [a0]) h1 e3 e4 kU thU (fun b m => by
    have : b = a0 := by simpa using m
    rw [this]; exact m0) oN (fun b hb b' hb' => ap1 b hb b' hb')
  refine ⟨F.set i _, ⟨⟨fun b u hb nb nA => kU b u hb fun m => ?_, thU, fun _ z => z, fun _ z => .inl z, fun b m => .inl ?_⟩, sN⟩⟩
  · have : b = a0 := by simpa using m
    subst this
    exact nA (inF b m0)
  · rcases flat_set F i _ b m with m | m
    · exact inF b m
    · exact m
end
/-- the block that counts a unit in marks[level], as a reading; the frame has ten slots -/
def rMark (u : RS) : RS := fun P env => ∃ (rs ds : List D) (x : Str) (z : Nat) (a b n m : Int) (r1 r3 r7 r8 r9 r10 : Option D),
  env = [some (.lst false rs), r1, some (.lst true ds), r3, some (.str x), some (.int z), none, r7, r8, r9, r10] ∧ z < 2 ^ 63 ∧ ds[z]? = some (.lst true [.int a, .int b]) ∧ rs[z]? = some (.tup [.int n, .int m]) ∧
  (let c := decide (x = PySem.Str.ofString "B")
   let own := if c = true then b + 1 else a + 1
   let oth := if c = true then a else b
   let fin := fun d => [some (.lst false rs), r1, some (D.lst true (ds.set z d)), r3, some (.str x), some (.int z), none, some (.int (if c = true then 1 else 0)), some (.int n), some (.int m), r10]
   if own < n ∨ own - oth < m then P.bk (fin (.lst true (if c = true then [.int a, .int (b + 1)] else [.int (a + 1), .int b]))) else u P (fin (.lst true [.int 0, .int 0])))
section
variable {X : Cx} {W : WX} {G : Bg} {c : Nat} {rest : List Stmt} {u : RS}
set_option maxHeartbeats 4000000
theorem jb_mark {k1 k2 k3 k4 k5 k6 k7 k8 k9 k10 : Nat} {q1 q2 q3 q4 q5 q6 q7 q8 q9 q10 q11 q12 q13 q14 q15 q16 q17 q18 q19 q20 q21 q22 q23 q24 q25 q26 q27 q28 q29 q30 q31 q32 q33 q34 q35 q36 q37 q38 q39 q40 q41 q42 q43 q44 q45 q46 q47 q48 q49 q50 q51 q52 q53 q54 q55 q56 q57 q58 : Pos}
    (hc : X.calm = true) (hN : X.N = (["races_here", "note", "marks", "spot", "letter", "level", "mark", "side", "big", "lead", "race"] : List Str)) (hnd : X.N.Nodup) (hgi : Gl X "int") (hmi : X.mg "int" = none)
    (l0 : X.env.scope.names.lookup ("races_here" : Str) = some .local) (l2 : X.env.scope.names.lookup ("marks" : Str) = some .local) (l4 : X.env.scope.names.lookup ("letter" : Str) = some .local) (l5 : X.env.scope.names.lookup ("level" : Str) = some .local)
    (l6 : X.env.scope.names.lookup ("mark" : Str) = some .local) (l7 : X.env.scope.names.lookup ("side" : Str) = some .local) (l8 : X.env.scope.names.lookup ("big" : Str) = some .local) (l9 : X.env.scope.names.lookup ("lead" : Str) = some .local)
    (hr : JB X W G c rest u) :
    JB X W G c (.Assign [.Name "mark" q1] (.Subscript (.Name "marks" q2) (.Name "level" q3) q4) q5 ::
      .Assign [.Name "side" q6] (.Call (.Name "int" q7) [.Compare (.Name "letter" q8) [.Eq] [.Constant (.str (PySem.Str.ofString "B")) k1 q9] q10] [] q11) q12 ::
      .Assign [.Subscript (.Name "mark" q13) (.Name "side" q14) q15] (.BinOp (.Subscript (.Name "mark" q16) (.Name "side" q17) q18) .Add (.Constant (.int 1) k2 q19) q20) q21 ::
      .Assign [.Tuple [.Name "big" q22, .Name "lead" q23] k3 q24] (.Subscript (.Name "races_here" q25) (.Name "level" q26) q27) q28 ::
      .If (.BoolOp .Or [.Compare (.Subscript (.Name "mark" q29) (.Name "side" q30) q31) [.Lt] [.Name "big" q32] q33,
        .Compare (.BinOp (.Subscript (.Name "mark" q34) (.Name "side" q35) q36) .Sub (.Subscript (.Name "mark" q37) (.BinOp (.Constant (.int 1) k4 q38) .Sub (.Name "side" q39) q40) q41) q42) [.Lt] [.Name "lead" q43] q44] q45) [.Break q46] [] q47 ::
      .Assign [.Tuple [.Subscript (.Name "mark" q48) (.Constant (.int 0) k5 q49) q50, .Subscript (.Name "mark" q51) (.Constant (.int 1) k6 q52) q53] k7 q54] (.Tuple [.Constant (.int 0) k8 q55, .Constant (.int 0) k9 q56] k10 q57) q58 :: rest) (rMark u) := by
  have n0 : X.N[0]? = some ("races_here" : Str) := by rw [hN]; rfl
  have n2 : X.N[2]? = some ("marks" : Str) := by rw [hN]; rfl
  have n4 : X.N[4]? = some ("letter" : Str) := by rw [hN]; rfl
  have n5 : X.N[5]? = some ("level" : Str) := by rw [hN]; rfl
  have n6 : X.N[6]? = some ("mark" : Str) := by rw [hN]; rfl
  have n7 : X.N[7]? = some ("side" : Str) := by rw [hN]; rfl
  have n8 : X.N[8]? = some ("big" : Str) := by rw [hN]; rfl
  have n9 : X.N[9]? = some ("lead" : Str) := by rw [hN]; rfl
  have v0 : ∀ p, PE X (.Name "races_here" p) (tVar 0) := fun p => pv 0 n0 (.inl l0)
  have v2 : ∀ p, PE X (.Name "marks" p) (tVar 2) := fun p => pv 2 n2 (.inl l2)
  have v4 : ∀ p, PE X (.Name "letter" p) (tVar 4) := fun p => pv 4 n4 (.inl l4)
  have v5 : ∀ p, PE X (.Name "level" p) (tVar 5) := fun p => pv 5 n5 (.inl l5)
  have v6 : ∀ p, PE X (.Name "mark" p) (tVar 6) := fun p => pv 6 n6 (.inl l6)
  have v7 : ∀ p, PE X (.Name "side" p) (tVar 7) := fun p => pv 7 n7 (.inl l7)
  have v8 : ∀ p, PE X (.Name "big" p) (tVar 8) := fun p => pv 8 n8 (.inl l8)
  have v9 : ∀ p, PE X (.Name "lead" p) (tVar 9) := fun p => pv 9 n9 (.inl l9)
  have ms : ∀ p p' p'', PE X (.Subscript (.Name "mark" p) (.Name "side" p') p'') (tOp (rIxL X.K) (tVar 6) (tVar 7)) := fun p p' p'' => pe_ix ix_list (v6 p) (v7 p') (fun _ _ => rfl)
  refine pssImp (pss_cons (ps_set (i := 6) hnd n6 (.inl l6) (pe_ix ix_list (v2 _) (v5 _) (fun _ _ => rfl)) (by rfl) (.inr l6))
    (pss_cons (ps_set (i := 7) hnd n7 (.inl l7) (pe_callTy call_int1 hgi hmi bt_int (pa_cons (pe_cmpR op_eq (v4 _) pe_str (nomark _)) pa_nil)) (by rfl) (.inr l7))
    (pss_cons (ps_asg (pe_op op_add (ms _ _ _) pe_int) (pg_sub (v6 _) (v7 _) set_list (by intro _; rfl)) rfl rfl rfl)
    (pss_cons (ps_asg (pe_ix ix_list (v0 _) (v5 _) (fun _ _ => rfl)) (pg_tup (n := 2) hc (pgs_cons (pg_name (i := 8) hnd n8 (.inl l8) (.inr l8)) (pgs_cons (pg_name (i := 9) hnd n9 (.inl l9) (.inr l9)) pgs_nil))) rfl rfl rfl)
    (pss_cons (ps_if (pw_or (pt_cmpR op_lt (ms _ _ _) (v8 _) (nomark _)) (pw_or1 (pt_cmpR op_lt (pe_op op_sub (ms _ _ _) (pe_ix ix_list (v6 _) (pe_op op_sub pe_int (v7 _)) (fun _ _ => rfl))) (v9 _) (nomark _)))).pt (pss_one ps_break) pss_nil)
    (pss_cons (ps_asg (pe_tup (pa_cons pe_int (pa_cons pe_int pa_nil))) (pg_tup (n := 2) hc (pgs_cons (pg_sub (v6 _) pe_int set_list (by intro _; rfl)) (pgs_cons (pg_sub (v6 _) pe_int set_list (by intro _; rfl)) pgs_nil))) rfl (by unfold swappedStores; simp) rfl)
    hr)))))) fun Dn σ H h => ?_
  obtain ⟨n, Z, env, F, P, l, s, t, qn, qb, qc, qr, qx⟩ := h
  obtain ⟨rs, ds, x, z, a, b, nn, m, r1, r3, r7, r8, r9, r10, rfl, hz, hd, hrz, t⟩ := t
  obtain ⟨p, vs, a0, e2, hp, hv, ha0, nZ, fin⟩ := nest_mark (i := 2) s rfl hd
  obtain ⟨v0, fp0, e0, _, pr, vr, ev0, hpr, zpr, rlr, _⟩ := s.at_ 0 _ rfl
  obtain ⟨vt, hvt, ta, us, evt, hta, ru⟩ := RpL.get0 rlr hrz
  obtain ⟨eus, _⟩ := ru.two
  obtain ⟨v4', fp4, e4, _, ev4, _⟩ := s.at_ 4 _ rfl
  obtain ⟨v5', fp5, e5, _, ev5, _⟩ := s.at_ 5 _ rfl
  subst ev0 evt eus ev4 ev5
  have nr : pr ≠ a0 := fun e => nZ (e ▸ zpr)
  have nt : ta ≠ a0 := fun e => by rw [e, ha0] at hta; cases hta
  obtain ⟨w0, w1, w2, w3, w4, w5, w6, w7, w8, w9, w10, rfl⟩ : ∃ w0 w1 w2 w3 w4 w5 w6 w7 w8 w9 w10, σ = [w0, w1, w2, w3, w4, w5, w6, w7, w8, w9, w10] := by
    have := s.len
    match σ, this with
    | [w0, w1, w2, w3, w4, w5, w6, w7, w8, w9, w10], _ => exact ⟨_, _, _, _, _, _, _, _, _, _, _, rfl⟩
  cases e0; cases e2; cases e4; cases e5
  obtain ⟨cc, hcc⟩ : ∃ cc, cc = decide (x = PySem.Str.ofString "B") := ⟨_, rfl⟩
  have hk : decide (V.str x = V.str (PySem.Str.ofString "B")) = cc := by
    rw [hcc, Bool.eq_iff_iff, decide_eq_true_iff, decide_eq_true_iff]
    exact ⟨fun e => by injection e, fun e => by rw [e]⟩
  rw [← hcc] at t
  -- what is left at the end, for any heap
  have stt : ∀ (H' : Hp) (a' b' sd : Int), (∀ b u, H b = some u → b ≠ a0 → H' b = some u) → H' a0 = some (.lst [.int a', .int b']) →
      ∃ F2, Send X.K G n 0 Z H F.flatten Z [some (.lst false rs), r1, some (.lst true (ds.set z (.lst true [.int a', .int b']))), r3, some (.str x), some (.int z), none, some (.int sd), some (.int nn), some (.int m), r10]
        [some (.ref pr), w1, some (.ref p), w3, some (.str x), some (.int z), some (.ref a0), some (.int sd), some (.int nn), some (.int m), w10] H' F2 := fun H' a' b' sd k1 k2 => by
    obtain ⟨F2, e⟩ := fin H' a' b' k1 k2
    have s2 := e.stt.ghost (i := 6) rfl (some (.ref a0))
    have s3 := ((s2.store (Ob.flat (d := .int sd) (v := .int sd) ⟨rfl, rfl⟩) (fun _ h => nomatch h) 7).store (Ob.flat (d := .int nn) (v := .int nn) ⟨rfl, rfl⟩) (fun _ h => nomatch h) 8).store (Ob.flat (d := .int m) (v := .int m) ⟨rfl, rfl⟩) (fun _ h => nomatch h) 9
    refine ⟨_, ⟨e.st.keep, e.st.there, e.st.zz, e.st.zn, fun b hb => e.st.fn b ?_⟩, s3⟩
    rcases flat_set _ 9 [] b hb with h | h
    · cases h
    rcases flat_set _ 8 [] b h with h | h
    · cases h
    rcases flat_set _ 7 [] b h with h | h
    · cases h
    exact h
  refine ⟨.ref p, rfl, .int z, rfl, p, vs, z, .ref a0, rfl, rfl, SqL.of hp, atI_nat hv, ?_⟩
  refine ⟨.str x, rfl, rfl, .inr ⟨_, rfl, ?_⟩⟩
  rw [hk]
  clear hk hcc
  have go : ∀ env2 σ2 H2 F2, Send X.K G n 0 Z H F.flatten Z env2 σ2 H2 F2 → u P env2 → liSt X W G c u Dn σ2 H2 := fun env2 σ2 H2 F2 e tu => by
    have tr : ∀ {Z3 env3 σ3 H3 F3}, Send X.K G (n + 0) c Z H2 F2.flatten Z3 env3 σ3 H3 F3 → Send X.K G n c Z H F.flatten Z3 env3 σ3 H3 F3 := fun e2 => by
      have := e.trans e2
      rw [Nat.zero_add] at this
      exact this
    exact ⟨n, Z, env2, F2, P, l, e.stt, tu, fun Z3 env3 σ3 H3 F3 e3 t3 => qn Z3 env3 σ3 H3 F3 (tr e3) t3, fun Z3 env3 σ3 H3 F3 e3 t3 => qb Z3 env3 σ3 H3 F3 (tr e3) t3, fun Z3 env3 σ3 H3 F3 e3 t3 => qc Z3 env3 σ3 H3 F3 (tr e3) t3,
      fun d v fp Z3 H3 s3 g3 o3 t3 => qr d v fp Z3 H3 (e.st.trans s3 fun a m => e.st.fn a m) g3 o3 t3, fun x cls da Z3 env3 σ3 H3 F3 e3 xr t3 => qx x cls da Z3 env3 σ3 H3 F3 (tr e3) xr t3⟩
  cases cc
  · refine ⟨.ref a0, rfl, .int 0, rfl, a0, _, 0, .int a, rfl, rfl, SqL.of ha0, atI_0 _ _, a, 1, rfl, rfl, .ref a0, rfl, .int 0, rfl, a0, _, 0, 0, rfl, rfl, ha0, rfl, ?_⟩
    have h3 : (upd H a0 (.lst ([V.int a, V.int b].set 0 (V.int (a + 1))))) a0 = some (.lst [.int (a + 1), .int (b)]) := upd_same
    have k3 : ∀ b' u, H b' = some u → b' ≠ a0 → (upd H a0 (.lst ([V.int a, V.int b].set 0 (V.int (a + 1))))) b' = some u := fun b' u hb ne => by rw [upd_ne ne]; exact hb
    generalize upd H a0 (.lst ([V.int a, V.int b].set 0 (V.int (a + 1)))) = H3 at *
    refine ⟨.ref pr, rfl, .int z, rfl, pr, vr, z, .ref ta, rfl, rfl, SqL.of (k3 _ _ hpr nr), atI_nat hvt, ta, _, rfl, SqT.of (k3 _ _ hta nt), rfl, _, _, rfl, _, _, rfl, rfl, ?_⟩
    have bk : (a + 1 < nn ∨ a + 1 - b < m) → Dn.bk [some (.ref pr), w1, some (.ref p), w3, some (.str x), some (.int z), some (.ref a0), some (.int 0), some (.int nn), some (.int m), w10] H3 := fun hb => by
      obtain ⟨F2, e⟩ := stt H3 (a + 1) (b) 0 k3 h3
      exact qb Z _ _ _ F2 e.up' (by
        have t2 := t
        dsimp only at t2
        simp only [if_true, if_false, Bool.false_eq_true] at t2
        rw [if_pos hb] at t2
        exact t2)
    refine ⟨.ref a0, rfl, .int 0, rfl, a0, _, 0, .int (a + 1), rfl, rfl, SqL.of h3, atI_0 _ _, .int nn, rfl, a + 1, nn, rfl, rfl, _, rfl, ite2 (fun hb => ?_) (fun hb => ?_)⟩
    · exact iteT (bk (.inl (of_decide_eq_true hb)))
    refine ⟨.ref a0, rfl, .int 0, rfl, a0, _, 0, .int (a + 1), rfl, rfl, SqL.of h3, atI_0 _ _, .ref a0, rfl, .int 0, rfl, 1, 0, rfl, rfl, a0, _, 1 - 0, .int b, rfl, rfl, SqL.of h3, atI_1 _ _ _, a + 1, b, rfl, rfl, .int m, rfl, a + 1 - b, m, rfl, rfl, _, rfl, ite2 (fun hb2 => ?_) (fun hb2 => ?_)⟩
    · exact bk (.inr (of_decide_eq_true hb2))
    refine ⟨by show 2 ≤ sizeLine; decide, fun l0 hl0 => ?_⟩
    have n0 : l0 ≠ a0 := fun e => by rw [e, h3] at hl0; cases hl0
    have h4 : (upd H3 l0 (.tup [V.int 0, V.int 0])) a0 = some (.lst [.int (a + 1), .int (b)]) := by rw [upd_ne n0.symm]; exact h3
    refine ⟨l0, _, rfl, SqT.of upd_same, rfl, _, _, rfl, .ref a0, rfl, a0, _, 0, 0, rfl, rfl, h4, rfl, _, _, rfl, .ref a0, rfl, a0, _, 1, 1, rfl, rfl, upd_same, rfl, rfl, ?_⟩
    have goK : ∀ H2 : Hp, (∀ b' u, H b' = some u → b' ≠ a0 → H2 b' = some u) → H2 a0 = some (.lst [.int 0, .int 0]) → liSt X W G c u Dn [some (.ref pr), w1, some (.ref p), w3, some (.str x), some (.int z), some (.ref a0), some (.int 0), some (.int nn), some (.int m), w10] H2 := fun H2 q1 q2 => by
      obtain ⟨F2, e⟩ := stt H2 0 0 0 q1 q2
      exact go _ _ _ F2 e (by
        have t2 := t
        dsimp only at t2
        simp only [if_true, if_false, Bool.false_eq_true] at t2
        rw [if_neg (fun h => h.elim (fun h => hb (decide_eq_true h)) (fun h => hb2 (decide_eq_true h)))] at t2
        exact t2)
    refine goK _ (fun b' u hb' ne => ?_) upd_same
    rw [upd_ne ne, upd_ne ne, upd_ne (fun e => by rw [← e, k3 _ _ hb' ne] at hl0; cases hl0)]
    exact k3 b' u hb' ne
  · refine ⟨.ref a0, rfl, .int 1, rfl, a0, _, 1, .int b, rfl, rfl, SqL.of ha0, atI_1 _ _ _, b, 1, rfl, rfl, .ref a0, rfl, .int 1, rfl, a0, _, 1, 1, rfl, rfl, ha0, rfl, ?_⟩
    have h3 : (upd H a0 (.lst ([V.int a, V.int b].set 1 (V.int (b + 1))))) a0 = some (.lst [.int (a), .int (b + 1)]) := upd_same
    have k3 : ∀ b' u, H b' = some u → b' ≠ a0 → (upd H a0 (.lst ([V.int a, V.int b].set 1 (V.int (b + 1))))) b' = some u := fun b' u hb ne => by rw [upd_ne ne]; exact hb
    generalize upd H a0 (.lst ([V.int a, V.int b].set 1 (V.int (b + 1)))) = H3 at *
    refine ⟨.ref pr, rfl, .int z, rfl, pr, vr, z, .ref ta, rfl, rfl, SqL.of (k3 _ _ hpr nr), atI_nat hvt, ta, _, rfl, SqT.of (k3 _ _ hta nt), rfl, _, _, rfl, _, _, rfl, rfl, ?_⟩
    have bk : (b + 1 < nn ∨ b + 1 - a < m) → Dn.bk [some (.ref pr), w1, some (.ref p), w3, some (.str x), some (.int z), some (.ref a0), some (.int 1), some (.int nn), some (.int m), w10] H3 := fun hb => by
      obtain ⟨F2, e⟩ := stt H3 (a) (b + 1) 1 k3 h3
      exact qb Z _ _ _ F2 e.up' (by
        have t2 := t
        dsimp only at t2
        simp only [if_true, if_false, Bool.false_eq_true] at t2
        rw [if_pos hb] at t2
        exact t2)
    refine ⟨.ref a0, rfl, .int 1, rfl, a0, _, 1, .int (b + 1), rfl, rfl, SqL.of h3, atI_1 _ _ _, .int nn, rfl, b + 1, nn, rfl, rfl, _, rfl, ite2 (fun hb => ?_) (fun hb => ?_)⟩
    · exact iteT (bk (.inl (of_decide_eq_true hb)))
    refine ⟨.ref a0, rfl, .int 1, rfl, a0, _, 1, .int (b + 1), rfl, rfl, SqL.of h3, atI_1 _ _ _, .ref a0, rfl, .int 1, rfl, 1, 1, rfl, rfl, a0, _, 1 - 1, .int a, rfl, rfl, SqL.of h3, atI_0 _ _, b + 1, a, rfl, rfl, .int m, rfl, b + 1 - a, m, rfl, rfl, _, rfl, ite2 (fun hb2 => ?_) (fun hb2 => ?_)⟩
    · exact bk (.inr (of_decide_eq_true hb2))
    refine ⟨by show 2 ≤ sizeLine; decide, fun l0 hl0 => ?_⟩
    have n0 : l0 ≠ a0 := fun e => by rw [e, h3] at hl0; cases hl0
    have h4 : (upd H3 l0 (.tup [V.int 0, V.int 0])) a0 = some (.lst [.int (a), .int (b + 1)]) := by rw [upd_ne n0.symm]; exact h3
    refine ⟨l0, _, rfl, SqT.of upd_same, rfl, _, _, rfl, .ref a0, rfl, a0, _, 0, 0, rfl, rfl, h4, rfl, _, _, rfl, .ref a0, rfl, a0, _, 1, 1, rfl, rfl, upd_same, rfl, rfl, ?_⟩
    have goK : ∀ H2 : Hp, (∀ b' u, H b' = some u → b' ≠ a0 → H2 b' = some u) → H2 a0 = some (.lst [.int 0, .int 0]) → liSt X W G c u Dn [some (.ref pr), w1, some (.ref p), w3, some (.str x), some (.int z), some (.ref a0), some (.int 1), some (.int nn), some (.int m), w10] H2 := fun H2 q1 q2 => by
      obtain ⟨F2, e⟩ := stt H2 0 0 1 q1 q2
      exact go _ _ _ F2 e (by
        have t2 := t
        dsimp only at t2
        simp only [if_true, if_false, Bool.false_eq_true] at t2
        rw [if_neg (fun h => h.elim (fun h => hb (decide_eq_true h)) (fun h => hb2 (decide_eq_true h)))] at t2
        exact t2)
    refine goK _ (fun b' u hb' ne => ?_) upd_same
    rw [upd_ne ne, upd_ne ne, upd_ne (fun e => by rw [← e, k3 _ _ hb' ne] at hl0; cases hl0)]
    exact k3 b' u hb' ne
variable {c1 c2 : Nat} {a b : Expr} {ta tb : RE} {pos : Pos}
theorem je_in (hu : X.A.units + 65 < cLine) (ha : JE X W G c1 a ta) (hb : JE X W G c2 b tb) (hm : behindInMarks .In b = false := by with_unfolding_all rfl) : JE X W G (c1 + c2) (.Compare a [.In] [b] pos) (r2 ta tb (gIn false)) := je_cmp (op_inP hu) (v_in false) ha hb hm
theorem je_notIn (hu : X.A.units + 65 < cLine) (ha : JE X W G c1 a ta) (hb : JE X W G c2 b tb) (hm : behindInMarks .NotIn b = false := by with_unfolding_all rfl) : JE X W G (c1 + c2) (.Compare a [.NotIn] [b] pos) (r2 ta tb (gIn true)) := je_cmp (op_notInP hu) (v_in true) ha hb hm
end
end TT

set_option Elab.async false
set_option linter.all false
set_option maxRecDepth 100000
set_option maxHeartbeats 1000000
namespace L2
open PySem PySem.Spec PyProof.Rows
section
variable {X : Cx} {cx qn : Str} {C fI : Addr}
/-- e.value, e an error that a def was handed -/
theorem pe_byOwnP {p : Addr × Obj} {cls : Value} {d : Option Addr} {e : Expr} {te : TE} {pos : Pos} (hp : p ∈ X.pn) (T : PySem.OwnX.OwnTxt cx qn X.K X.mg C fI) (hz : Zc cls d p.2) (hf : ∃ vs, p.2.data = .fields vs) (he : PE X e te)
    (hb : attributeBase e "value" X.env (eval e X.env) = eval e X.env := by rfl) :
    PE X (.Attribute e "value" pos) (tByOwn C p.1 cls d te) := by
  refine ⟨fun pins s σ H Q I h => ?_⟩
  refine attr_of hb (thn (he.run pins s σ H _ I h) fun u s1 hh => ?_)
  obtain ⟨x, H1, I1, rx, ex, ec, dd, v, ed, ea, q⟩ := hh
  subst ex
  obtain rfl : u = Value.ref p.1 := rx
  subst ec
  subst ed
  obtain ⟨ha, _⟩ := I1.pin p (List.mem_append_left _ hp)
  obtain ⟨vs, hd⟩ := hf
  have hx : ObjOk X.prog X.w H1 s1.heap dd (.xd [(("value" : Str), v)]) := I1.hok dd _ ea
  obtain ⟨mA, hns, hr⟩ := hx
  obtain ⟨od, ho, hl⟩ := lookIn_ns hns
  have l : List.lookup ("value" : Str) [(("value" : Str), v)] = some v := by simp [List.lookup]
  obtain ⟨u, hu, ru⟩ := RelO.some_of (v := v) (o := mA "value") (by rw [← l]; exact hr "value")
  have J : PySem.W.InstAt s1.heap p.1 p.2 C (some od) := ⟨ha, hz.1, by unfold PySem.W.notCls; rw [hd] <;> rfl, by rw [hz.2]; exact ho⟩
  exact HandSPX.exc_get I1.kIn J T.ga T.gg T.exC (PySem.W.findObj_own T.hdC T.noN rfl (by rw [hl, hu])) (handed_of ru) ⟨v, H1, I1.tok _, ru, q⟩
end
end L2
namespace TT
open PySem PySem.Spec PyProof.Rows L2
section
variable {X : Cx} {W : WX} {G : Bg} {c : Nat} {cx qn : Str} {C fI : Addr}
theorem je_valP {dd : Addr} {p : Addr × Obj} {e : Expr} {te : RE} {pos : Pos} (hp : p ∈ X.pn) (T : PySem.OwnX.OwnTxt cx qn X.K X.mg C fI) (hz : Zc (.ref C) (some dd) p.2) (hf : ∃ vs, p.2.data = Data.fields vs) (he : JE X W G c e te)
    (hb : attributeBase e "value" X.env (eval e X.env) = eval e X.env := by rfl) :
    JE X W G c (.Attribute e "value" pos) (r1 te (gVal p.1 dd)) := peImp (pe_byOwnP hp T hz hf he hb) fun σ H Q h => by
  obtain ⟨n, Z, env, Q', E', pr, w, t, q, x⟩ := h
  refine ⟨n, Z, env, _, E', pr, w, t, fun d v fp Z1 H1 r1 o1 t1 => ?_, x⟩
  unfold gVal at t1
  split at t1
  · rename_i a' dd' d
    obtain ⟨e1, e2, t1⟩ := t1
    subst e1 e2
    obtain ⟨e3, ef, u, hd, rp⟩ := o1.rp
    subst ef
    exact ⟨e3, rfl, _, u, rfl, hd, q d u [] Z1 H1 r1 (Ob.flat rp) t1⟩
  · exact t1.elim
end
/-! ### xs[e] = v, e a call too -/
def rPutE (i : Nat) (ms : List Bool) (tv ti : RE) : RS := fun P env => match env[i]? with
  | some (some (.lst true _)) => tv (mask ms env) (fun d => ti (mask ms env) (fun z => match z with
      | .int k => (0 ≤ k ∧ k < 2 ^ 63) ∧ match (aft ms env (.tup [d, .int k]))[i]? with
        | some (some (.lst true xs)) => k.toNat < xs.length ∧ P.nx ((aft ms env (.tup [d, .int k])).set i (some (.lst true (xs.set k.toNat d))))
        | _ => False
      | _ => False) (fun x => P.ex x (frzS ms env))) (fun x => P.ex x (frzS ms env))
  | _ => False
section
variable {X : Cx} {W : WX} {G : Bg} {c1 c2 : Nat} {o ie e : Expr} {pos ipos : Pos} {tv ti : RE}
theorem js_putE {i : Nat} (ms : List Bool) (ho : PE X o (tVar i)) (he : JE X W G c1 e tv) (hi : JE X W G c2 ie ti) (h1 : swapsWithSole [.Subscript o ie ipos] e pos.line X.env = pure false := by rfl) (h2 : swappedStores [.Subscript o ie ipos] e X.env = pure none := by rfl)
    (h3 : List.map (fun x => x.snd) (assignEach [.Subscript o ie ipos] X.env) = [assign (.Subscript o ie ipos) X.env] := by rfl)
    (h4 : ∀ (v : Value), assign (.Subscript o ie ipos) X.env v = (do
                let ov ← holding [v] (eval o X.env)
                let iv ← holding [v, ov] (eval ie X.env)
                standAt ipos
                holding [v, ov, iv] (setItem ov iv v)
                release [v, ov, iv] []) := by intro _; rfl) :
    JS X W G (c1 + c2) (.Assign [.Subscript o ie ipos] e pos) (rPutE i ms tv ti) := psImp (ps_asg he (pg_sub ho hi set_list h4) h1 h2 h3) fun Dn σ H h => by
  obtain ⟨n, Z, env, F, P, l, s, t, qn, qb, qc, qr, qx⟩ := h
  unfold rPutE at t
  split at t
  · rename_i ds0 h0
    obtain ⟨v0, fp0, e1, e2, rp0⟩ := s.at_ i _ h0
    obtain ⟨a, vs0, f0, ev, ha, _, _⟩ := rp0
    subst ev
    obtain ⟨g, w⟩ := s.view ms
    have p : Pre G n (c1 + c2) (fun a => Z a ∨ a ∈ pickF ms F) H := ⟨g, l⟩
    refine ⟨n, _, mask ms env, _, _, p.left, w, t, fun d v fp Z1 H1 r1 o1 t1 => ?_, fun y cls da Z1 H1 r1 xr e1 => qx y cls da Z1 _ σ H1 _ (s.fails r1.up) xr e1⟩
    refine ⟨.ref a, e1, n + c1, Z1, mask ms env, _, _, p.right r1, w.step p.gd r1.nofp.st, t1, fun z u fz Z2 H2 r2 o2 t2 => ?_, fun y cls da Z2 H2 r2 xr e2 => qx y cls da Z2 _ σ H2 _ (s.fails (r1.then0 r2)) xr e2⟩
    split at t2
    · rename_i k
      obtain ⟨⟨k0, k1⟩, t2⟩ := t2
      have ol := (o1.step r1.gd r2.st).cons (o2.cons (ObL.nil (K := X.K) (G := G) (Z := Z2) (H := H2)) (fun _ _ _ h => nomatch h)) (by
        intro a ha b hb
        rw [List.append_nil] at hb
        exact r1.apart o1 r2 a ha b hb)
      have rr := r1.par r2
      rw [List.append_nil] at ol
      obtain ⟨Z3, F3, s1, o3, ap, st⟩ := s.afterL rr ol
      obtain ⟨u1, us1, f1, f2, eu, ef, oa, ob, ap2⟩ := o3.split
      obtain ⟨u2, us2, f3, f4, eu', ef', ob2, on, ap3⟩ := ob.split
      have g1 : us2 = [] := on.rp.1
      have g2 : f4 = [] := on.rp.2
      have g3 : u2 = .int k := ob2.rp.1
      have g4 : f3 = [] := ob2.rp.2
      subst g1 g2 g3 g4 ef'
      subst eu'
      cases eu
      have ef2 : fp ++ fz = f1 := by rw [ef]; simp
      rw [ef2] at ap st
      split at t2
      · rename_i xs hx
        obtain ⟨a', vs, F2, es, ha', lv, sd⟩ := list_put s1 st hx oa ap t2.1
        rw [e1] at es
        cases es
        obtain ⟨kk, rfl⟩ := Int.eq_ofNat_of_zero_le k0
        rw [Int.toNat_natCast] at *
        exact ⟨a, vs, kk, kk, rfl, rfl, ha', by rw [lv]; exact ixN_nat t2.1, qn Z3 _ σ _ F2 sd t2.2⟩
      · exact t2.elim
    · exact t2.elim
  · exact t.elim
end
/-! ### isinstance of values that are no errors, built-in kinds -/
inductive Kd where
  | non | bl | int | str | tup | lst
deriving DecidableEq
def Kd.nm : Kd → String
  | .non => "NoneType"
  | .bl => "bool"
  | .int => "int"
  | .str => "str"
  | .tup => "tuple"
  | .lst => "list"
def kindD : D → Option Kd
  | .non => some .non
  | .bl _ => some .bl
  | .int _ => some .int
  | .str _ => some .str
  | .tup _ => some .tup
  | .lst _ _ => some .lst
  | _ => none
def isKB (a T : Kd) : Bool := a == T || (a == .bl && T == .int)
theorem kit5 (a T : Kd) (h : T ≠ .non) : kitB a.nm T.nm = some (isKB a T) := by
  cases T <;> first | exact absurd rfl h | (cases a <;> decide +kernel)
def gIsK (T : Kd) : D → (D → Prop) → Prop := fun d Q => match kindD d with
  | some a => Q (.bl (isKB a T))
  | none => False
section
variable {K : PySem.W.Frag} {G : Bg} {Z : Zs} {H : Hp}
theorem kind_ty {d : D} {v : V} {fp : List Addr} {a : Kd} (r : Rp K G Z H d v fp) (e : kindD d = some a) : TyX K H v (.type a.nm) := by
  cases d with
  | non => cases e; rw [r.1]; exact .base .non
  | bl b => cases e; rw [r.1]; exact .base (.bl _)
  | int b => cases e; rw [r.1]; exact .base (.int _)
  | str b => cases e; rw [r.1]; exact .base (.str _)
  | tup b =>
    cases e
    obtain ⟨p, vs, ev, hp, _⟩ := r
    rw [ev]; exact .base (.tup hp)
  | lst o b =>
    cases e
    cases o with
    | true =>
      obtain ⟨p, vs, f, ev, hp, _⟩ := r
      rw [ev]; exact .base (.lst hp)
    | false =>
      obtain ⟨p, vs, ev, hp, _⟩ := r
      rw [ev]; exact .base (.lst hp)
  | _ => cases e
end
section
variable {X : Cx} {W : WX} {G : Bg} {c : Nat} {e : Expr} {pos p2 : Pos}
theorem je_isK {y : Str} {T : Kd} {q2 : Pos} {te : RE} (hg : Gl X "isinstance") (hm : X.mg "isinstance" = none) (hb : bootBuiltins "isinstance" = some (.builtin "isinstance")) (hT : T ≠ .non)
    (he : JE X W G c e te) (hcl : PE X (.Name y q2) (tC (.ty T.nm)))
    (hs : starEach [e, .Name y q2] X.env = (false, eval e X.env) :: starEach [.Name y q2] X.env := by rfl) (hs2 : starEach [.Name y q2] X.env = (false, eval (.Name y q2) X.env) :: starEach [] X.env := by rfl) (hpl : (backTo pos (starEach [.Name y q2] X.env)).any (·.1) = false := by rfl) :
    JE X W G c (.Call (.Name "isinstance" p2) [e, .Name y q2] [] pos) (r1 te (gIsK T)) := by
  refine peImp (pe_callB call_isi hg hm hb (pa_cons he (pa_cons hcl pa_nil hs2) hs) (by decide) (by decide) hs hpl) fun σ H Q h => ?_
  obtain ⟨n, Z, env, Q', E', pr, w, t, q, x⟩ := h
  refine ⟨n, Z, env, _, E', pr, w, t, fun d v fp Z1 H1 r1 o1 t1 => ?_, x⟩
  unfold gIsK at t1
  split at t1
  · rename_i a hk
    exact ⟨v, .ty T.nm, .type a.nm, .type T.nm, _, rfl, .ty T.nm, kind_ty o1.rp hk, kit_ty (kit5 a T hT), q (.bl (isKB a T)) (.bl (isKB a T)) [] Z1 H1 r1.nofp (Ob.flat ⟨rfl, rfl⟩) t1⟩
  · exact t1.elim
end
end TT

set_option Elab.async false
set_option linter.all false
set_option maxRecDepth 100000
set_option maxHeartbeats 1000000
namespace L2
open PySem PySem.Spec PyProof.Rows
/-! sum(d.values()), a dict with int values -/
def tSumVals (td : TE) : TE := fun σ H Q => td σ H fun x H1 => ∃ (a : Addr) (kvs : List (Key × V)) (is : List Int), x = V.ref a ∧ H1 a = some (.dK kvs) ∧ kvs.map (·.2) = is.map V.int ∧ Q (.int is.sum) H1
theorem preSum_take (is : List Int) : ∀ n, n ≤ is.length → preSum (fun i => is.getD i 0) n = (is.take n).sum
  | 0, _ => by rw [List.take_zero]; rfl
  | n + 1, h => by
    show preSum _ n + is.getD n 0 = _
    have e : is.take (n + 1) = is.take n ++ [is[n]] := by rw [List.take_add_one, List.getElem?_eq_getElem (by omega)]; rfl
    rw [preSum_take is n (by omega), e, List.sum_append, List.getD_eq_getElem?_getD, List.getElem?_eq_getElem (by omega)]
    simp
section
variable {X : Cx} {o : Expr} {p pos apos mpos : Pos} {td : TE}
theorem pe_sumVals (hc : X.calm = true) (hg : Gl X "sum") (hm : X.mg "sum" = none) (hd : PE X o td) (hbase : attributeBase o "values" X.env (eval o X.env) = eval o X.env := by rfl) (hline : (apos.endLine == mpos.line) = true := by rfl)
    (hse : starEach [Expr.Call (.Attribute o "values" apos) [] [] mpos] X.env = [(false, eval (Expr.Call (.Attribute o "values" apos) [] [] mpos) X.env)] := by rfl) :
    PE X (.Call (.Name "sum" p) [.Call (.Attribute o "values" apos) [] [] mpos] [] pos) (tSumVals td) := by
  refine ⟨fun pins s σ H Q I h => ?_⟩
  refine wpAny_Call_Name_kw (ld_blt I hg hm (u := .builtin "sum") (by first | rfl | decide +kernel) ?_ (by first | decide +kernel | decide) (by first | decide +kernel | decide))
  rw [hse]
  refine PySem.callWith_builtin1 (wpAny_Call_method0_late hbase hline (thn (hd.run pins s σ H _ I h) fun v s1 ⟨x, H1, I1, r1, a, kvs, is, ex, ha, hv, q⟩ => ?_))
  subst ex
  obtain rfl : v = Value.ref a := r1
  obtain ⟨_, hsys, vs, rel, dof⟩ := dk_of I1.hok ha
  obtain ⟨ep, dat⟩ := dof.dictAt
  have dat' := dat
  obtain ⟨ob, es, ho, ex, hdat, hko, hpr, hnd⟩ := dat'
  refine ⟨"dict", "dict.values", F.plainAttrs_dict, F.slot_dict_values, F.type_dict_values, ⟨ob, ho, ex.1⟩, fun b e => ?_, Calls.callWith_builtin rfl (PySem.evalArgs_none ?_)⟩
  · cases e
    exact ⟨ob, ho, ex.2.1⟩
  refine call_meetsIn F.slot_dict_values ⟨ob, ho, ex.1⟩ F.entry_dict_values (F.args_dict_values_1 _) (meets_dict_values (mixKind X.prog X.w) a hsys) ⟨⟨vs, dof⟩, ?_⟩
  have k1 : ∀ b u, s1.heap.get? b = some u → (s1.heap.push { cls := .type "dict_values", data := .fields #[.ref a] }).get? b = some u := fun b u e => Heap.get?_push_of_some _ e
  have dat1 : (s1.heap.push { cls := .type "dict_values", data := .fields #[.ref a] }).DictAt (mixKind X.prog X.w) a vs ep := dat.keep k1
  have hlv : vs.length = is.length := by
    have e1 := congrArg List.length hv
    rw [List.length_map, List.length_map] at e1
    rw [← e1]
    exact (KV.length rel).symm
  have hval : ∀ (i : Nat) (v : Value), (∃ k, vs[i]? = some (k, v)) → ∃ t, v = Value.int (is.getD i 0) t := fun i v ⟨k, hk⟩ => by
    obtain ⟨x, h1, h2⟩ := KV.at' rel hk
    have e1 : (kvs.map (·.2))[i]? = some x := by rw [List.getElem?_map, h1] <;> rfl
    rw [hv, List.getElem?_map] at e1
    obtain ⟨j, hj, e2⟩ := Option.map_eq_some_iff.mp e1
    subst e2
    obtain ⟨t, e3⟩ := h2
    refine ⟨t, ?_⟩
    rw [e3, List.getD_eq_getElem?_getD, hj] <;> rfl
  refine call_sum_walkG (wpAny_pyIter_values (v := s1.heap.objs.size) (d := a) ⟨_, Heap.get?_push_size _ rfl, rfl, rfl⟩ dat1 ?_)
  have hlt : a < s1.heap.objs.size := Heap.lt_size ho
  have hsz : (s1.heap.push { cls := .type "dict_values", data := .fields #[.ref a] }).objs.size = s1.heap.objs.size + 1 := Heap.size_push _ _
  refine ⟨_, _, _, _, _, _, fun i => is.getD i 0, rfl, Walks.dictValues (knd := mixKind X.prog X.w) (A := X.A.in1) (I.ok.hd hc) (s1.heap.push { cls := .type "dict_values", data := .fields #[.ref a] }).objs.size a (by rw [hsz]; exact Nat.ne_of_lt (Nat.lt_succ_of_lt hlt)) vs ep,
    ⟨⟨_, Heap.get?_push_size _ rfl, rfl, rfl⟩, dat1.keep fun b u e => Heap.get?_push_of_some _ e⟩, fun b hb => ?_, hval, fun h' tk t' hk => ?_⟩
  · show b < ((s1.heap.push _).push _).objs.size
    rw [Heap.size_push, Heap.size_push]
    rw [hsz] at hb
    rcases List.mem_cons.mp hb with e | hb
    · rw [e]
      exact Nat.lt_succ_self _
    · have e : b = a := List.mem_singleton.mp hb
      rw [e]
      exact Nat.lt_succ_of_lt (Nat.lt_succ_of_lt hlt)
  · rw [hlv, preSum_take is is.length (Nat.le_refl _), List.take_of_length_le (Nat.le_refl _)]
    refine ⟨.int is.sum, H1, I1.kept (t' := tk) fun b u e => hk b u (fun hmem => ?_) (Heap.get?_push_of_some _ (k1 b u e)), ⟨t', rfl⟩, q⟩
    have e1 : b = (s1.heap.push { cls := .type "dict_values", data := .fields #[.ref a] }).objs.size := List.mem_singleton.mp hmem
    have e2 := Heap.lt_size e
    rw [hsz] at e1
    rw [e1] at e2
    exact absurd e2 (Nat.not_lt.mpr (Nat.le_succ _))
end
end L2

set_option Elab.async false
set_option linter.all false
set_option maxRecDepth 100000
set_option maxHeartbeats 1000000
namespace TT
open PySem PySem.Spec PyProof.Rows L2
/-! ### bits of ints: <<, >>, &, |, bit_length -/
abbrev gShl : D → D → (D → Prop) → Prop := gII fun i j Q => CShl i j ∧ Q (.int (i * 2 ^ j.toNat))
abbrev gShr : D → D → (D → Prop) → Prop := gII fun i j Q => 0 ≤ j ∧ Q (.int (i / 2 ^ j.toNat))
abbrev gBand : D → D → (D → Prop) → Prop := gII fun i j Q => Q (.int (Builtin.bitAnd i j))
abbrev gBor : D → D → (D → Prop) → Prop := gII fun i j Q => Q (.int (Builtin.bitOr i j))
def gBits : D → (D → Prop) → Prop := fun x Q => match x with
  | .int i => Q (.int (Builtin.Int.intBits i : Nat))
  | _ => False
section
variable {X : Cx} {W : WX} {G : Bg} {c c1 c2 : Nat} {a b o : Expr} {ta tb : RE} {pos apos : Pos}
theorem je_shl (ha : JE X W G c1 a ta) (hb : JE X W G c2 b tb) : JE X W G (c1 + c2) (.BinOp a .LShift b pos) (r2 ta tb gShl) := je_op op_shlW (v_rI fun _ _ _ _ _ => ⟨rfl, rfl⟩) ha hb
theorem je_shr (ha : JE X W G c1 a ta) (hb : JE X W G c2 b tb) : JE X W G (c1 + c2) (.BinOp a .RShift b pos) (r2 ta tb gShr) := je_op op_shr (v_rI fun _ _ _ _ _ => ⟨rfl, rfl⟩) ha hb
theorem je_band (ha : JE X W G c1 a ta) (hb : JE X W G c2 b tb) : JE X W G (c1 + c2) (.BinOp a .BitAnd b pos) (r2 ta tb gBand) := je_op op_and (v_rI0 fun _ _ _ _ _ => ⟨rfl, rfl⟩) ha hb
theorem je_bor (ha : JE X W G c1 a ta) (hb : JE X W G c2 b tb) : JE X W G (c1 + c2) (.BinOp a .BitOr b pos) (r2 ta tb gBor) := je_op op_or (v_rI0 fun _ _ _ _ _ => ⟨rfl, rfl⟩) ha hb
theorem je_bits (ha : JE X W G c o ta) (hbase : attributeBase o "bit_length" X.env (eval o X.env) = eval o X.env := by rfl) (hline : (apos.endLine == pos.line) = true := by rfl) :
    JE X W G c (.Call (.Attribute o "bit_length" apos) [] [] pos) (r1 ta gBits) := peImp (pe_bits ha hbase hline) fun σ H Q h => by
  obtain ⟨n, Z, env, Q', E', pr, w, t, q, x⟩ := h
  refine ⟨n, Z, env, _, E', pr, w, t, fun d v fp Z1 H1 r1 o1 t1 => ?_, x⟩
  unfold gBits at t1
  split at t1
  · rename_i i
    obtain ⟨ev, ef⟩ := o1.rp
    subst ev ef
    exact ⟨i, rfl, q (.int (Builtin.Int.intBits i : Nat)) _ [] Z1 H1 r1 (Ob.flat ⟨rfl, rfl⟩) t1⟩
  · exact t1.elim
end
/-! ### xs[place] op= e, ints -/
def rGetN (K : PySem.W.Frag) : V → V → Hp → VK → Prop := fun o i H Q => ∃ (p : Addr) (xs : List V) (j : Nat) (v : V), o = .ref p ∧ i = .int j ∧ SqL K H p xs ∧ xs[j]? = some v ∧ Q v H
theorem get_listN {X : Cx} : PGet X (rGetN X.K) := by
  intro pins s σ H o i ov iv Q I ro ri h
  obtain ⟨p, xs, j, v, rfl, rfl, hq, hx, q⟩ := h
  cases ro
  obtain ⟨t, rfl⟩ := ri
  obtain ⟨its, r, pl, hz⟩ := I.list hq
  obtain ⟨u, hu, ru⟩ := r.get hx
  have hj : j < xs.length := (List.getElem?_eq_some_iff.mp hx).1
  have hn := line63
  exact wpAny_getItem_list pl.isList (Int.natCast_nonneg _) (by omega) (by rw [Int.toNat_natCast]; simpa using hu) ⟨v, H, I, ru, q⟩
/-- xs in slot i, owned; the place and the other int told -/
def rAugP (i : Nat) (ix : Ev → Option Int) (ms : List Bool) (te : RE) (C : Int → Int → Prop) (f : Int → Int → Int) : RS := fun P env => match env[i]?, ix env with
  | some (some (.lst true ds)), some k => ∃ (q : Nat) (x : Int), k = q ∧ ds[q]? = some (.int x) ∧ te (mask ms env) (fun y => ∃ j, y = .int j ∧ C x j ∧ P.nx (env.set i (some (.lst true (ds.set q (.int (f x j))))))) (fun e => P.ex e (frzS ms env))
  | _, _ => False
structure IxOf (X : Cx) (ti : TE) (ix : Ev → Option Int) : Prop where
  run : ∀ {G n Z H env σ F k}, Stt X.K G n Z H env σ F → ix env = some k → ∀ (H2 : Hp) (Q : VK), Q (.int k) H2 → ti σ H2 Q
theorem ixof_v {X : Cx} (j : Nat) : IxOf X (tVar j) (ixV j) := ⟨fun s hk H2 Q q => by
  unfold ixV at hk
  split at hk
  · rename_i k' hj
    cases hk
    obtain ⟨vj, fj, ej, _, rj⟩ := s.at_ j _ hj
    have evj : vj = .int _ := rj.1
    subst evj
    exact ⟨_, ej, q⟩
  · cases hk⟩
theorem ixof_c {X : Cx} (k : Int) : IxOf X (tC (.int k)) (fun _ => some k) := ⟨fun s hk H2 Q q => by
  cases hk
  exact q⟩
section
variable {X : Cx} {W : WX} {G : Bg} {c : Nat} {o ie e : Expr} {pos ipos : Pos} {op : Operator} {ti : TE} {te : RE} {C : Int → Int → Prop} {f : Int → Int → Int} {ix : Ev → Option Int}
theorem rpInt {K : PySem.W.Frag} {Z : Zs} {H : Hp} {q : Nat} {x : Int} : ∀ {ds : List D} {vs : List V} {fp : List Addr}, RpL K G Z H ds vs fp → ds[q]? = some (.int x) → vs[q]? = some (.int x) := by
  induction q with
  | zero =>
    intro ds vs fp r h
    match ds, r, h with
    | d :: ds, ⟨v, vs', f1, f2, e, r1, _, _⟩, h =>
      cases h
      subst e
      rw [r1.1]; rfl
  | succ q ih =>
    intro ds vs fp r h
    match ds, r, h with
    | d :: ds, ⟨v, vs', f1, f2, e, _, r2, _⟩, h =>
      subst e
      exact ih r2 h
theorem js_augP {i : Nat} (ms : List Bool) (ho : PE X o (tVar i)) (hi : PE X ie ti) (hx : IxOf X ti ix) (he : JE X W G c e te) (hop : OpR X (inplaceOp op) (rI C fun i j => .int (f i j)))
    (ha : ∀ ov iv new, augStore ie ov iv new = (do holding [new, ov, iv] (setItem ov iv new); release [new, ov, iv] []; pure .next) := by intros; rfl) :
    JS X W G c (.AugAssign (.Subscript o ie ipos) op e pos) (rAugP i ix ms te C f) := psImp (ps_augS ho hi get_listN he hop set_list ha) fun Dn σ H h => by
  obtain ⟨n, Z, env, F, P, l, s, t, qn, qb, qc, qr, qx⟩ := h
  unfold rAugP at t
  split at t
  · rename_i ds k h0 hk
    obtain ⟨q, x, rfl, hq, t⟩ := t
    obtain ⟨v0, fp0, e1, e2, rp0⟩ := s.at_ i _ h0
    obtain ⟨a, vs0, f0, ev, ha0, rl, _⟩ := rp0
    subst ev
    obtain ⟨g, w⟩ := s.view ms
    have p : Pre G n c (fun a => Z a ∨ a ∈ pickF ms F) H := ⟨g, l⟩
    refine ⟨.ref a, e1, hx.run s hk H _ ⟨a, vs0, q, .int x, rfl, rfl, SqL.of ha0, rpInt rl hq, ?_⟩⟩
    refine ⟨n, _, mask ms env, _, _, p, w, t, fun d v fp Z1 H1 r1 o1 t1 => ?_, fun y cls da Z1 H1 r1 xr e1 => qx y cls da Z1 _ σ H1 _ (s.fails r1) xr e1⟩
    obtain ⟨j, rfl, hC, t1⟩ := t1
    obtain ⟨ev, ef⟩ := o1.rp
    subst ev ef
    obtain ⟨Z2, F2, s1, o2, ap, st⟩ := s.after (ms := ms) r1 o1
    have ea : aft ms env (.int j) = env := rfl
    rw [ea] at s1
    have hql : q < ds.length := (List.getElem?_eq_some_iff.mp hq).1
    obtain ⟨a', vs, F3, es, ha', lv, sd⟩ := list_put (d := .int (f x j)) (v := .int (f x j)) (fp := []) s1 st h0 (Ob.flat ⟨rfl, rfl⟩) (fun _ h => nomatch h) hql
    rw [e1] at es
    cases es
    exact ⟨x, j, rfl, rfl, hC, a, vs, q, q, rfl, rfl, ha', by rw [lv]; exact ixN_nat hql, qn Z2 _ σ _ F3 sd t1⟩
  · exact t.elim
end
end TT

set_option Elab.async false
set_option linter.all false
set_option maxRecDepth 100000
set_option maxHeartbeats 1000000
namespace TT
open PySem PySem.Spec PyProof.Rows L2
/-! ### for x in reversed(list), reversed(range(n)) -/
theorem rev_at {α : Type} {xs : List α} {i : Nat} {x : α} (h : xs.reverse[i]? = some x) : i < xs.length ∧ xs[xs.length - 1 - i]? = some x := by
  have hi : i < xs.reverse.length := (List.getElem?_eq_some_iff.mp h).1
  rw [List.length_reverse] at hi
  rw [List.getElem?_reverse hi] at h
  exact ⟨hi, h⟩
def iRev : D → (List D → Prop) → Prop := fun d Q => match d with
  | .lst _ ds => Q (frzL ds).reverse
  | _ => False
theorem wlk_rev {K : PySem.W.Frag} {G : Bg} {Z : Zs} {H : Hp} {a : Addr} {vs : List V} {ds : List D} (h : H a = some (.lst vs)) (z : Z a) (r : RpL K G Z H ds vs []) : Wlk K G (Itv K a vs.length) ds.reverse Z H := by
  have ld : ds.length = vs.length := r.len.symm
  refine ⟨fun Z2 H2 i l hi => ?_, fun Z2 H2 n i x H' d l g hd hy => ?_, fun Z2 H2 l => ?_⟩
  · rw [List.length_reverse, ld] at hi
    exact ⟨hi, vs, vs[vs.length - 1 - i]'(by omega), sqLLater l h z, List.getElem?_eq_getElem _⟩
  · obtain ⟨e, f⟩ := hy
    subst e
    obtain ⟨hi, hd⟩ := rev_at hd
    rw [ld] at hd
    obtain ⟨v, e1, rp⟩ := r.get0 hd
    have := f vs (sqLLater l h z)
    rw [e1] at this
    cases this
    exact ⟨Stp.refl0, g, rpLater l rp⟩
  · show vs.length ≤ ds.reverse.length
    rw [List.length_reverse, ld]
    exact Nat.le_refl _
def rngR (n : Nat) : List D := (List.range n).map fun i => D.int (((n - 1 - i : Nat)) : Int)
theorem rngR_len (n : Nat) : (rngR n).length = n := by unfold rngR; rw [List.length_map, List.length_range]
theorem rngR_at {n i : Nat} {d : D} (h : (rngR n)[i]? = some d) : i < n ∧ d = .int (((n - 1 - i : Nat)) : Int) := by
  have hi : i < (rngR n).length := (List.getElem?_eq_some_iff.mp h).1
  rw [rngR_len] at hi
  unfold rngR at h
  rw [List.getElem?_map, List.getElem?_range hi] at h
  exact ⟨hi, (Option.some.inj h).symm⟩
theorem wlk_rngR {K : PySem.W.Frag} {G : Bg} {Z : Zs} {H : Hp} {n : Nat} : Wlk K G (Itc (0 + ((((n : Int) - 0).toNat : Nat) : Int) - 1) (-1) ((n : Int) - 0).toNat) (rngR n) Z H := by
  have e : ((n : Int) - 0).toNat = n := by omega
  rw [e]
  refine ⟨fun Z2 H2 i l hi => by rw [rngR_len] at hi; exact hi, fun Z2 H2 m i x H' d l g hd hy => ?_, fun Z2 H2 l => by rw [rngR_len]; exact Nat.le_refl _⟩
  obtain ⟨e1, e2⟩ := hy
  obtain ⟨hi, ed⟩ := rngR_at hd
  subst e1 ed
  rw [e2, show (0 : Int) + (n : Int) - 1 + (i : Int) * -1 = ((n - 1 - i : Nat) : Int) by omega]
  exact ⟨Stp.refl0, g, rfl, rfl⟩
abbrev riRev (te : RE) : RI := fun env Q E => te env (fun d => iRev d Q) E
def iRevR1 : D → (List D → Prop) → Prop := fun d Q => match d with
  | .int k => (0 ≤ k ∧ k < 2 ^ 62) ∧ Q (rngR k.toNat)
  | _ => False
abbrev riRevR (te : RE) : RI := fun env Q E => te env (fun d => iRevR1 d Q) E
section
variable {X : Cx} {W : WX} {G : Bg} {c : Nat} {tg e : Expr} {te : RE} {p p2 pos pos2 : Pos}
theorem ji_rev (hg : Gl X "reversed") (hm : X.mg "reversed" = none) (he : JE X W G c e te) (hs : starEach [e] X.env = (false, eval e X.env) :: starEach [] X.env := by rfl) :
    JI X W G c tg (.Call (.Name "reversed" p) [e] [] pos) (fun env Q E => te env (fun d => iRev d Q) E) := piImp (RT.pi_revA hg hm he hs) fun σ H R h => by
  obtain ⟨n, Z, env, Q', E', pr, w, t, q, x⟩ := h
  refine ⟨n, Z, env, _, E', pr, w, t, fun d v fp Z1 H1 r1 o1 t1 => ?_, x⟩
  obtain ⟨g2, o2, s2⟩ := o1.share r1.gd
  have r2 := r1.op s2 g2
  unfold iRev at t1
  split at t1
  · rename_i ow ds
    obtain ⟨a, vs, ev, hr, hz, rr, _⟩ := o2
    exact ⟨a, vs, ev, .inl ⟨.inl (.inl hr), q _ _ _ H1 r2 (wlk_rev hr hz rr) t1⟩⟩
  · exact t1.elim
theorem ji_revR (hg : Gl X "reversed") (hm : X.mg "reversed" = none) (hg2 : Gl X "range") (hm2 : X.mg "range" = none) (he : JE X W G c e te) (hs : starEach [Expr.Call (.Name "range" p2) [e] [] pos2] X.env = (false, eval (Expr.Call (.Name "range" p2) [e] [] pos2) X.env) :: starEach [] X.env := by rfl) (na : starEach [e] X.env = (false, eval e X.env) :: starEach [] X.env := by rfl) :
    JI X W G c tg (.Call (.Name "reversed" p) [.Call (.Name "range" p2) [e] [] pos2] [] pos) (fun env Q E => te env (fun d => iRevR1 d Q) E) := piImp (pi_revR hg hm (prg_1 hg2 hm2 he na) hs) fun σ H R h => by
  obtain ⟨n, Z, env, Q', E', pr, w, t, q, x⟩ := h
  refine ⟨n, Z, env, _, E', pr, w, t, fun d v fp Z1 H1 r1 o1 t1 => ?_, x⟩
  unfold iRevR1 at t1
  split at t1
  · rename_i k
    obtain ⟨⟨k0, k1⟩, t1⟩ := t1
    obtain ⟨ev, ef⟩ := o1.rp
    subst ev ef
    obtain ⟨m, rfl⟩ := Int.eq_ofNat_of_zero_le k0
    rw [Int.toNat_natCast] at t1
    exact ⟨m, rfl, by decide, by decide, by omega, by omega, q _ _ _ H1 r1 wlk_rngR t1⟩
  · exact t1.elim
end
end TT

set_option Elab.async false
set_option linter.all false
set_option maxRecDepth 100000
set_option maxHeartbeats 1000000
namespace TT
open PySem PySem.Spec PyProof.Rows L2
/-! ### max of three ints -/
def gMax3 : List D → (D → Prop) → Prop := fun ds Q => match ds with
  | [.int i, .int j, .int k] => Q (.int (max (max i j) k))
  | _ => False
theorem max3_ints (i j k : Int) : nuMax3 (.int i) (.int j) (.int k) = some (.int (max (max i j) k)) := by
  have two : ∀ a b : Int, nuMax2 (.int a) (.int b) = some (.int (max a b)) := fun a b => by
    show some (if decide (a < b) = true then V.int b else V.int a) = _
    by_cases h : a < b
    · rw [decide_eq_true h, if_pos rfl, Int.max_eq_right (by omega)]
    · rw [decide_eq_false h, if_neg (by decide), Int.max_eq_left (by omega)]
  show (nuMax2 (.int i) (.int j)).bind (fun m => nuMax2 m (.int k)) = _
  rw [two]
  exact two _ _
theorem rpL3 {K : PySem.W.Frag} {G : Bg} {Z : Zs} {H : Hp} {i j k : Int} {vs : List V} {fp : List Addr} (r : RpL K G Z H [.int i, .int j, .int k] vs fp) : vs = [.int i, .int j, .int k] := by
  obtain ⟨v1, us, f1, f2, rfl, ⟨rfl, _⟩, r2, _⟩ := r
  obtain ⟨v2, us2, f3, f4, rfl, ⟨rfl, _⟩, r3, _⟩ := r2
  obtain ⟨v3, us3, f5, f6, rfl, ⟨rfl, _⟩, r4, _⟩ := r3
  rw [r4.1]
theorem v_max3 {X : Cx} {G : Bg} : VOpL X G (rNuC3 nuMax3) gMax3 := by
  intro n Z H ds xs fx Q' Q g0 o t q
  unfold gMax3 at t
  split at t
  · rename_i i j k
    exact ⟨_, _, _, _, rpL3 o.rp, max3_ints i j k, vdone (d := .int (max (max i j) k)) g0 q ⟨rfl, rfl⟩ t⟩
  · exact t.elim
theorem op_rI {X : Cx} {f : Value → Value → Sem Value} {g : Int → Int → V} (h : OpR X f (rI0 g)) : OpR X f (rI (fun _ _ => True) g) := fun pins s σ H x y v u Q I rx ry ⟨i, j, e1, e2, _, q⟩ => h pins s σ H x y v u Q I rx ry ⟨i, j, e1, e2, q⟩
theorem ip_orI {X : Cx} : OpR X (inplaceOp .BitOr) (rI (fun _ _ => True) fun i j => .int (Builtin.bitOr i j)) := op_rI iop_or
theorem ip_addI {X : Cx} : OpR X (inplaceOp .Add) (rI (fun _ _ => True) fun i j => .int (i + j)) := op_rI iop_add
end TT

set_option Elab.async false
set_option linter.all false
set_option maxRecDepth 100000
set_option maxHeartbeats 2000000
namespace TT
open PySem PySem.Spec PyProof.Rows L2 RT
/-! ### list(reversed(xs)) -/
section
variable {prog : Program} {w : World} {A : Around} {E : Value → Shared → Prop} {s : Shared} {it l : Addr} {its : Array Value}
abbrev endsBy (prog : Program) (w : World) (A : Around) (R : Result → Shared → Prop) : PySem.Fin → Shared → Prop := fun fin s2 => match fin with
  | .done fl => R (.ok fl) s2
  | .again cd => cd.quiet = true ∧ codeAny (model prog w) A cd R s2
/-- the items from the last to the first -/
abbrev BackAt (its : Array Value) : Nat → Value → Prop := fun i v => its[its.size - 1 - i]? = some v
theorem ext_back {R : Result → Shared → Prop} (hh : A.handled = none) (S : Addr) (c₀ : Nat) (hS : s.heap.get? S = some { cls := .type "list", data := .seq #[] c₀ }) (ri : s.heap.IsRevIter it l ((its.size : Int) - 1)) (li : s.heap.IsList l its) (ne : l ≠ it) (hn : its.size ≤ sizeLine) (nSi : S ≠ it) (nSl : S ≠ l)
    (k : ∀ h' tk acc c, (∀ b o, b ≠ S → b ≠ it → s.heap.get? b = some o → h'.get? b = some o) → h'.get? S = some { cls := .type "list", dict := none, data := .seq acc c, slots := #[] } → ItemsOf (BackAt its) acc its.size → R (.ok (.ret .none)) { s with heap := h', toks := tk }) :
    wpAny (model prog w) A.in1 (Builtin.List.listExtendWith (.ref S) (.ref it) .none) (endsBy prog w A R) (fun e s' => R (.error e) s') s := by
  have Wk := (Walks.listRev (prog := prog) (w := w) (A := A.in1) hh it l ne its).toS
  have nf : S ∉ [it, l] := by
    intro m
    rcases List.mem_cons.mp m with m | m
    · exact nSi m
    · exact nSl (List.mem_singleton.mp m)
  have ty : s.TypeIs (.ref it) "list_reverseiterator" := ri.typeIs
  have h1 : Builtin.List.listSameRef (.ref S) (.ref it) = false := by simp [Builtin.List.listSameRef, nSi]
  unfold Builtin.List.listExtendWith
  refine wpAny_bind (wpAny_typeOf ty ?_)
  rw [if_neg (by rw [h1]; decide)]
  refine wpAny_bind (wpAny_pyIter_revIter ri (wpAny_bind (wpAny_holding ?_)))
  unfold Builtin.List.listLengthHint
  refine wpAny_bind (wpAny_specialOf ty nolen_lri ?_)
  show wpAny _ A.in1 (specialOf (Value.ref it) (Str.ofString "__length_hint__") >>= _) _ _ s
  refine wpAny_bind (wpAny_specialOf ty hint_lri ?_)
  generalize hd : ("list_reverseiterator.__length_hint__" : String) = nm
  wp_delta
  rw [show splitId nm = some ("list_reverseiterator", "__length_hint__") by rw [← hd]; decide +kernel]
  rw [← hd]
  refine wpAny_bind (wpAny_isInstance (b := true) ty (by rw [isSubtype_type]; kernel_rfl) (wpAny_pure ?_))
  rw [if_neg (by decide)]
  have e0 : ((its.size : Nat) : Int) - 1 - ((0 : Nat) : Int) = (its.size : Int) - 1 := Int.sub_zero _
  refine wpAny_pure ⟨plainId_quiet F.plain_extend_loop _, codeAny_extend_loopS Wk hn _ nf _ its.size 0 _ _ _ rfl (Nat.zero_le _) ⟨Nat.zero_le _, by rw [e0]; exact ri, li⟩ hS (ItemsOf.nil _) fun s2 acc c mv g2 it2 => ?_⟩
  rw [Moved.eq_with mv]
  refine k s2.heap s2.toks acc c (fun b o b1 b2 e => mv.heap b o (fun m => ?_) e) g2 it2
  rcases List.mem_cons.mp m with m | m
  · exact b1 m
  · exact b2 (List.mem_singleton.mp m)
theorem init_back {R : Result → Shared → Prop} (hh : A.handled = none) (S : Addr) (hS : s.heap.get? S = some { cls := .type "list", data := .seq #[] }) (ri : s.heap.IsRevIter it l ((its.size : Int) - 1)) (li : s.heap.IsList l its) (ne : l ≠ it) (hn : its.size ≤ sizeLine) (nSi : S ≠ it) (nSl : S ≠ l)
    (k : ∀ h' tk acc c, (∀ b o, b ≠ S → b ≠ it → s.heap.get? b = some o → h'.get? b = some o) → h'.get? S = some { cls := .type "list", dict := none, data := .seq acc c, slots := #[] } → ItemsOf (BackAt its) acc its.size → R (.ok (.ret .none)) { s with heap := h', toks := tk }) :
    wpAny (model prog w) A.in1 (Builtin.«list.__init__» ⟨[.ref S, .ref it], []⟩) (endsBy prog w A R) (fun e s' => R (.error e) s') s := by
  show wpAny _ _ (do let before ← Builtin.List.listItems (.ref S); Builtin.List.listUpdate (.ref S) (fun _ => #[]); letGo before.toList.reverse; Builtin.List.listExtendWith (.ref S) (.ref it) .none) _ _ s
  refine wpAny_bind ?_
  unfold Builtin.List.listItems
  refine wpAny_bind (wpAny_seqItems hS rfl (wpAny_pure ?_))
  show wpAny _ _ (updateSeq S (fun _ => #[]) >>= fun _ => letGo (#[] : Array Value).toList.reverse >>= fun _ => Builtin.List.listExtendWith (.ref S) (.ref it) .none) _ _ s
  refine wpAny_bind (wpAny_updateSeq hS rfl (wpAny_bind (wpAny_letGo ?_)))
  have hS2 := Heap.get?_update_self (Obj.mapSeq (fun _ => (#[] : Array Value))) hS rfl
  have oth : ∀ b o, b ≠ S → s.heap.get? b = some o → (s.heap.update S (Obj.mapSeq (fun _ => (#[] : Array Value)))).get? b = some o := fun b o nb q => (Heap.get?_update_other _ _ (Ne.symm nb)).trans q
  obtain ⟨ol, h1, h2⟩ := id li
  refine ext_back hh S _ hS2 (ri.at fun o q => oth it o nSi.symm q) ⟨ol, oth l ol nSl.symm h1, h2⟩ ne hn nSi nSl fun h' tk acc c kp g i => k h' tk acc c (fun b o b1 b2 q => kp b o b1 b2 (oth b o b1 q)) g i
theorem call_list_back {Q : Value → Shared → Prop} (hh : A.handled = none) (ri : s.heap.IsRevIter it l ((its.size : Int) - 1)) (li : s.heap.IsList l its) (ne : l ≠ it) (hn : its.size ≤ sizeLine)
    (k : ∀ h' tk acc c, (∀ b o, b ≠ it → s.heap.get? b = some o → h'.get? b = some o) → h'.get? s.heap.objs.size = some { cls := .type "list", dict := none, data := .seq acc c, slots := #[] } → ItemsOf (BackAt its) acc its.size → Q (.ref s.heap.objs.size) { s with heap := h', toks := tk }) :
    wpAny (model prog w) A (call (.type "list") [.ref it]) Q E s := by
  obtain ⟨oi, hi, _⟩ := id ri
  obtain ⟨ol, h1, h2⟩ := id li
  refine callType_codes (Q₁ := fun obj s2 => obj = .ref s.heap.objs.size ∧ s2 = { s with heap := s.heap.push { cls := .type "list", data := .seq #[] } }) F.called_list (F.typeCall_list_1 _) F.entry_list_init (code_list_new _ ⟨rfl, rfl⟩) fun obj s2 q => ?_
  obtain ⟨rfl, rfl⟩ := q
  have hS : (s.heap.push { cls := .type "list", data := .seq #[] }).get? s.heap.objs.size = some { cls := .type "list", data := .seq #[] } := Heap.get?_push_size _ rfl
  refine ⟨⟨_, hS, rfl⟩, F.args_list_init_2 _ _, init_back (A := A.in1) hh _ hS (ri.at fun o q => Heap.get?_push_of_some _ q) (li.push _) ne hn (Nat.ne_of_gt (Heap.lt_size hi)) (Nat.ne_of_gt (Heap.lt_size h1)) fun h' tk acc c kp g i => ?_⟩
  exact ⟨rfl, k h' tk acc c (fun b o b2 q => kp b o (Nat.ne_of_lt (Heap.lt_size q)) b2 (Heap.get?_push_of_some _ q)) g i⟩
end
/-- a new list of the items of a list, from the last one -/
def tLstRev (K : PySem.W.Frag) (te : TE) : TE := fun σ H Q => te σ H fun v H1 => ∃ (a : Addr) (xs : List V), v = .ref a ∧ SqL K H1 a xs ∧ ∀ q, H1 q = none → Q (.ref q) (upd H1 q (.lst xs.reverse))
theorem pe_lstRev {X : Cx} {e : Expr} {te : TE} {p p2 pos pos2 : Pos} (hc : X.calm = true) (hg : Gl X "list") (hm : X.mg "list" = none) (hg2 : Gl X "reversed") (hm2 : X.mg "reversed" = none) (he : PE X e te) (hs : starEach [e] X.env = (false, eval e X.env) :: starEach [] X.env := by rfl)
    (hs2 : starEach [Expr.Call (.Name "reversed" p2) [e] [] pos2] X.env = (false, eval (Expr.Call (.Name "reversed" p2) [e] [] pos2) X.env) :: starEach [] X.env := by rfl) :
    PE X (.Call (.Name "list" p) [.Call (.Name "reversed" p2) [e] [] pos2] [] pos) (tLstRev X.K te) := by
  refine ⟨fun pins s σ H Q I h => ?_⟩
  refine Call_ (ld_blt I hg hm boot_list (PyProof.Rows.callWith_type1 (args_cons (Call_ (ld_blt I hg2 hm2 PyProof.Rows.boot_reversed (PyProof.Rows.callWith_type1 (args_cons (thn (he.run pins s σ H _ I h) fun u s1 ⟨v, H1, I1, r1, q1⟩ => args_nil ?_) hs) hs rfl))) hs2) hs2 rfl))
  obtain ⟨a, xs, ev, hq, q⟩ := q1
  subst ev
  obtain rfl : u = Value.ref a := r1
  obtain ⟨its, rv, p', hz⟩ := I1.list hq
  refine call_reversed_list p'.isList (args_nil ?_)
  obtain ⟨ol, hol, _⟩ := id p'.isList
  have hsz : (s1.heap.push (revObj a ((its.toArray.size : Int) - 1))).objs.size = s1.heap.objs.size + 1 := Heap.size_push _ _
  refine call_list_back (s := { s1 with heap := s1.heap.push (revObj a ((its.toArray.size : Int) - 1)) }) (I1.ok.hd hc) ⟨_, Heap.get?_push_size _ rfl, rfl, rfl⟩ (p'.isList.push _) (Nat.ne_of_lt (Heap.lt_size hol)) (by rw [List.size_toArray, ← rv.length]; exact hz) fun h' tk acc c kp g i => ?_
  have le : s1.heap.objs.size ≤ (s1.heap.push (revObj a ((its.toArray.size : Int) - 1))).objs.size := by rw [hsz]; exact Nat.le_succ _
  have keep : ∀ b o, s1.heap.get? b = some o → h'.get? b = some o := fun b o q => kp b o (Nat.ne_of_lt (Heap.lt_size q)) (Heap.get?_push_of_some _ q)
  refine ⟨.ref _, _, I1.laid (a := (s1.heap.push (revObj a ((its.toArray.size : Int) - 1))).objs.size) (o := .lst xs.reverse) (h' := h') (t' := tk) keep le ⟨by rw [List.length_reverse]; exact hz, acc.toList, c, RT.vals_rev rv i, ?_⟩, rfl, q _ (I1.hok.fresh le)⟩
  rw [Array.toArray_toList]
  exact g
theorem rpL_rev {K : PySem.W.Frag} {G : Bg} {Z : Zs} {H : Hp} : ∀ {ds : List D} {vs : List V} {fp : List Addr}, fp = [] → RpL K G Z H ds vs fp → RpL K G Z H ds.reverse vs.reverse []
  | [], vs, fp, _, r => by rw [r.1]; exact ⟨rfl, rfl⟩
  | d :: ds, vs, fp, ef, ⟨v, us, f1, f2, e, r, rs, e2⟩ => by
    subst e
    rw [ef] at e2
    obtain ⟨z1, z2⟩ := List.append_eq_nil_iff.mp e2.symm
    rw [z1] at r
    rw [List.reverse_cons, List.reverse_cons]
    exact (rpL_rev z2 rs).app (f' := []) ⟨v, [], [], [], rfl, r, ⟨rfl, rfl⟩, rfl⟩
def gLRev : D → (D → Prop) → Prop := fun d Q => match d with
  | .lst _ ds => Q (.lst true (frzL ds).reverse)
  | _ => False
theorem je_lstRev {X : Cx} {W : WX} {G : Bg} {c : Nat} {e : Expr} {te : RE} {p p2 pos pos2 : Pos} (hc : X.calm = true) (hg : Gl X "list") (hm : X.mg "list" = none) (hg2 : Gl X "reversed") (hm2 : X.mg "reversed" = none) (he : JE X W G c e te) (hs : starEach [e] X.env = (false, eval e X.env) :: starEach [] X.env := by rfl)
    (hs2 : starEach [Expr.Call (.Name "reversed" p2) [e] [] pos2] X.env = (false, eval (Expr.Call (.Name "reversed" p2) [e] [] pos2) X.env) :: starEach [] X.env := by rfl) :
    JE X W G c (.Call (.Name "list" p) [.Call (.Name "reversed" p2) [e] [] pos2] [] pos) (r1 te gLRev) := peImp (pe_lstRev hc hg hm hg2 hm2 he hs hs2) fun σ H Q h => by
  obtain ⟨n, Z, env, Q', E', pr, w, t, q, x⟩ := h
  refine ⟨n, Z, env, _, E', pr, w, t, fun d v fp Z1 H1 r1 o1 t1 => ?_, x⟩
  obtain ⟨g2, o2, s2⟩ := o1.share r1.gd
  have r2 := r1.op s2 g2
  unfold gLRev at t1
  split at t1
  · rename_i ow ds
    obtain ⟨a, vs, ev, hr, hz, rr, _⟩ := o2
    refine ⟨a, vs, ev, SqL.of hr, fun p hp => ?_⟩
    have ol : ObL X.K G (fun a => Z1 a ∨ a ∈ fp) H1 (frzL ds).reverse vs.reverse [] := ⟨rpL_rev rfl rr, List.nodup_nil, (fun _ m => nomatch m), (fun _ m => nomatch m)⟩
    exact q _ _ [p] _ _ (r2.op (Stp.new hp fun b m => .inr (List.mem_singleton.mp m)) (r2.gd.new hp)) (ob_lst r2.gd ol hp) t1
  · exact t1.elim
end TT

set_option Elab.async false
set_option linter.all false
set_option maxRecDepth 100000
set_option maxHeartbeats 1000000
namespace TT
open PySem PySem.Spec PyProof.Rows L2 PySem.Builtin PySem.Builtin.Str
/-! ### text.count(sign) -/
def gSCnt : D → D → (D → Prop) → Prop := fun x y Q => match x, y with
  | .str z, .str u => Q (.int (Txt.count z u))
  | _, _ => False
theorem v_scnt {X : Cx} {G : Bg} : VOp2 X G (fun x y H Q => (fun (x : V) (xs : List V) (H : Hp) (Q : VK) => ∃ a b, x = .str a ∧ xs = [.str b] ∧ Q (.int (Txt.count a b)) H) x [y] H Q) gSCnt := by
  intro n Z H dx x fx dy y fy Q' Q g ox oy ap t q
  unfold gSCnt at t
  split at t
  · rename_i z u
    have e1 : x = .str z := ox.rp.1
    have e2 : y = .str u := oy.rp.1
    exact ⟨z, u, e1, by rw [e2], vdone (d := .int (Txt.count z u)) g q ⟨rfl, rfl⟩ t⟩
  · exact t.elim
section
variable {X : Cx} {W : WX} {G : Bg} {c1 c2 : Nat} {o e : Expr} {ta tb : RE} {apos cpos : Pos}
theorem je_scount (ho : JE X W G c1 o ta) (he : JE X W G c2 e tb) (hb : attributeBase o "count" X.env (eval o X.env) = eval o X.env := by rfl) (hline : (apos.endLine == cpos.line) = true := by rfl) (hse : starEach [e] X.env = (false, eval e X.env) :: starEach [] X.env := by rfl)
    (hfew : ((backTo cpos (starEach [e] X.env)).all (fun x => !x.1) && (backToKw cpos (keywordEach [] X.env)).all (fun x => x.1.isSome) && decide (([e] : List Expr).length + ([] : List Keyword).length + (if ([] : List Keyword).isEmpty then 0 else 1) < 30)) = true := by rfl) :
    JE X W G (c1 + c2) (.Call (.Attribute o "count" apos) [e] [] cpos) (rMs1 ta tb gSCnt) := je_ms1 PySem.F.slot_str_count PySem.F.type_str_count mt_count v_scnt ho he hb hline hse hfew
end
/-- one sign at a place -/
theorem sub_one (x : Str) (c i : Nat) : subAt x ⟨#[c]⟩ i = true ↔ x.cps[i]? = some c := by
  unfold subAt
  rw [beq_iff_eq]
  constructor
  · intro h
    have h2 : (x.cps.extract i (i + 1))[0]? = some c := by
      rw [show x.cps.extract i (i + 1) = #[c] from h]; rfl
    rw [Array.getElem?_extract] at h2
    split at h2
    · simpa using h2
    · cases h2
  · intro h
    have hi : i < x.cps.size := (Array.getElem?_eq_some_iff.mp h).1
    show x.cps.extract i (i + 1) = #[c]
    refine Array.ext_getElem? fun j => ?_
    rw [Array.getElem?_extract]
    cases j with
    | zero =>
      rw [if_pos (by omega), Nat.add_zero, h]; rfl
    | succ j =>
      rw [if_neg (by omega)]
      simp
theorem occ_run (x : Str) (c lim : Nat) : ∀ (m k : Nat) (fd : Array Nat) (fr : Nat), fr ≤ k → fd.size + m ≤ lim → k + m = x.length + 1 →
    (forIn (m := Id) (List.range' k m) (fd, fr) (StrLaws.occBody x ⟨#[c]⟩ x.length lim)).run.fst.size = fd.size + (x.cps.toList.drop k).count c
  | 0, k, fd, fr, _, _, hm => by
    rw [List.drop_eq_nil_of_le (by show x.cps.toList.length ≤ k; rw [Array.length_toList]; have : x.length = x.cps.size := rfl; omega)]
    rfl
  | m + 1, k, fd, fr, hf, hl, hm => by
    rw [List.range'_succ, List.forIn_cons]
    unfold StrLaws.occBody
    have el : x.length = x.cps.size := rfl
    have e1 : (⟨#[c]⟩ : Str).length = 1 := rfl
    by_cases h : x.cps[k]? = some c
    · have hk : k < x.cps.size := (Array.getElem?_eq_some_iff.mp h).1
      have hc : x.cps.toList.drop k = c :: x.cps.toList.drop (k + 1) := by
        have : x.cps.toList[k]? = some c := by rw [Array.getElem?_toList]; exact h
        exact List.drop_eq_getElem?_toList_append .. |>.trans (by rw [this]; rfl)
      rw [if_pos ⟨⟨⟨by show fd.size < lim; omega, hf⟩, by rw [e1]; omega⟩, (sub_one x c k).mpr h⟩]
      refine (occ_run x c lim m (k + 1) (fd.push k) (k + 1) (Nat.le_refl _) (by rw [Array.size_push]; omega) (by omega)).trans ?_
      rw [hc, List.count_cons_self, Array.size_push]
      omega
    · rw [if_neg (fun z => h ((sub_one x c k).mp z.2))]
      refine (occ_run x c lim m (k + 1) fd fr (by omega) (by omega) (by omega)).trans ?_
      by_cases hk : k < x.cps.size
      · obtain ⟨d, hd⟩ : ∃ d, x.cps[k]? = some d := ⟨_, Array.getElem?_eq_getElem hk⟩
        have hc : x.cps.toList.drop k = d :: x.cps.toList.drop (k + 1) := by
          have : x.cps.toList[k]? = some d := by rw [Array.getElem?_toList]; exact hd
          exact List.drop_eq_getElem?_toList_append .. |>.trans (by rw [this]; rfl)
        have ne : d ≠ c := fun e => h (by rw [hd, e])
        rw [hc, List.count_cons_of_ne ne]
      · rw [List.drop_eq_nil_of_le (by rw [Array.length_toList]; omega), List.drop_eq_nil_of_le (by rw [Array.length_toList]; omega)]
theorem count_one (x : Str) (c : Nat) : Txt.count x ⟨#[c]⟩ = ((x.cps.toList.count c : Nat) : Int) := by
  unfold Txt.count
  rw [StrLaws.occ_eq, Array.length_toList, Nat.sub_zero, occ_run x c _ _ 0 #[] 0 (Nat.le_refl _) (by show 0 + _ ≤ _; omega) (by omega)]
  simp
end TT

set_option Elab.async false
set_option linter.all false
set_option maxRecDepth 100000
set_option maxHeartbeats 1000000
namespace TT
open PySem PySem.Spec PyProof.Rows L2
/-! ### x = y = a number -/
def rSet2 (i j : Nat) (k : Int) : RS := fun P env => P.nx ((env.set i (some (.int k))).set j (some (.int k)))
section
variable {X : Cx} {W : WX} {G : Bg}
theorem js_set2 {i j : Nat} {k : Int} {kk : Nat} {x y : Str} {p1 p2 cpos pos : Pos} (hN : X.N.Nodup) (hi : X.N[i]? = some x) (hj : X.N[j]? = some y) (hx : Loc X.env.scope x) (hy : Loc X.env.scope y)
    (ha : (assignEach [.Name x p1, .Name y p2] X.env).map (·.2) = [assign (.Name x p1) X.env, assign (.Name y p2) X.env] := by rfl) (hw : swappedStores [.Name x p1, .Name y p2] (.Constant (.int k) kk cpos) X.env = pure none := by rfl)
    (hf : X.fn x = true ∨ X.env.scope.names.lookup x = some .local := by first | exact .inl rfl | exact .inr rfl | assumption) (hg : X.fn y = true ∨ X.env.scope.names.lookup y = some .local := by first | exact .inl rfl | exact .inr rfl | assumption) :
    JS X W G 0 (.Assign [.Name x p1, .Name y p2] (.Constant (.int k) kk cpos) pos) (rSet2 i j k) := psImp (ps_asg2 pe_int (pg_name (i := i) hN hi hx hf) (pg_name (i := j) hN hj hy hg) ha hw) fun Dn σ H h => by
  obtain ⟨n, Z, env, F, P, l, s, t, qn, qb, qc, qr, qx⟩ := h
  show Dn.nx ((σ.set i (some (.int k))).set j (some (.int k))) H
  exact qn _ _ _ _ _ (((Send.refl s).hold (d := .int k) (v := .int k) i (Ob.flat ⟨rfl, rfl⟩)).hold (d := .int k) (v := .int k) j (Ob.flat ⟨rfl, rfl⟩)) t
/-! ### (x, y), both handed over -/
def rMv2 (i j : Nat) : RM := fun env Q _ => match env[i]?, env[j]? with
  | some (some d), some (some e) => Q (.tup [d, e]) ((env.set i none).set j none)
  | _, _ => False
theorem jm_mv2 {i j k : Nat} {x y : Str} {p1 p2 pos : Pos} (hij : i ≠ j) (h1 : PE X (.Name x p1) (tVar i)) (h2 : PE X (.Name y p2) (tVar j)) : JM X W G 0 (.Tuple [.Name x p1, .Name y p2] k pos) (rMv2 i j) := peImp (pe_tup (pa_cons h1 (pa_cons h2 pa_nil))) fun σ H Q h => by
  obtain ⟨n, Z, env, F, Q', E', l, s, t, q, x⟩ := h
  unfold rMv2 at t
  split at t
  · rename_i d e hd he
    obtain ⟨v, fp, a1, a2, o, ap, s2⟩ := s.take hd
    have he' : (env.set i none)[j]? = some (some e) := by rw [List.getElem?_set_ne hij]; exact he
    obtain ⟨v2, fp2, b1, b2, o2, ap2, s3⟩ := s2.take he'
    have sub2 : ∀ a ∈ fp2, a ∈ (F.set i []).flatten := fun a m => memF b2 a m
    have subF : ∀ a ∈ ((F.set i []).set j []).flatten, a ∈ (F.set i []).flatten := fun a m => (flat_set (F.set i []) j [] a m).elim (fun z => (nomatch z)) id
    have ol : ObL X.K G Z H [d, e] [v, v2] (fp ++ fp2) := ⟨⟨v, _, fp, fp2, rfl, o.rp, ⟨v2, _, fp2, [], rfl, o2.rp, ⟨rfl, rfl⟩, by rw [List.append_nil]⟩, rfl⟩, List.nodup_append.mpr ⟨o.nd, o2.nd, fun a ha b hb z => ap a ha b (sub2 b hb) z⟩, fun a m => (List.mem_append.mp m).elim (o.nz a) (o2.nz a), fun a m => (List.mem_append.mp m).elim (o.nb a) (o2.nb a)⟩
    refine ⟨v, a1, v2, b1, (by decide : 2 ≤ sizeLine), fun p hp => ?_⟩
    have kU : ∀ b u, H b = some u → (upd H p (.tup [v, v2])) b = some u := fun b u h => by rw [upd_ne (ne_of_none h hp)]; exact h
    have s4 : Stt X.K G (n + 0) Z (upd H p (.tup [v, v2])) ((env.set i none).set j none) σ ((F.set i []).set j []) := ⟨s3.gd.new hp, s3.len, s3.lenF, fun m d0 hm => by
      obtain ⟨w, f, c1, c2, r⟩ := s3.at_ m d0 hm
      exact ⟨w, f, c1, c2, rp_upd r hp⟩, s3.nd, s3.nz, s3.nb, fun a m => by
      obtain ⟨u, hu⟩ := s3.trk a m
      rw [kU a u hu, ← hu]
      exact s3.mt a m⟩
    refine q (.tup [d, e]) _ (fp ++ fp2) Z _ _ _ s4 (ob_tup (n := n) ol hp) (fun a ha b hb => ?_) ⟨fun a u h _ _ => kU a u h, fun a u h => ⟨u, kU a u h⟩, fun _ z => z, fun _ z => .inl z, fun a m => ?_⟩ t
    · rcases List.mem_append.mp ha with m | m
      · exact ap a m b (subF b hb)
      · exact ap2 a m b hb
    · have inF : ∀ a ∈ (F.set i []).flatten, a ∈ F.flatten := fun a m => (flat_set F i [] a m).elim (fun z => (nomatch z)) id
      rcases List.mem_append.mp m with m | m
      · rcases List.mem_append.mp m with m | m
        · exact .inl (memF a2 a m)
        · exact .inl (inF a (sub2 a m))
      · exact .inl (inF a (subF a m))
  · exact t.elim
end
end TT

set_option Elab.async false
set_option linter.all false
set_option maxRecDepth 100000
set_option maxHeartbeats 2000000
namespace HT
open PySem PySem.Spec PyProof.Rows
section
variable {prog : Program} {w : World} {A : Around} {E : Value → Shared → Prop} {s : Shared}
/-! ### (x, y)[::-1] -/
theorem applied_rev2 {sl : Addr} {vs : Value} {Q : Int × Int × Nat → Shared → Prop} (hs : s.heap.IsSliceOf sl .none .none vs) (ps : IsPart vs (some (-1))) (h : Q (1, -1, 2) s) : wpAny (model prog w) A (Builtin.Slice.sliceApplied (.ref sl) (pure (2 : Int))) Q E s := by
  obtain ⟨os, hos, hcs, hds⟩ := id hs
  unfold Builtin.Slice.sliceApplied Builtin.Slice.sliceFields
  refine wpAny_bind (wpAny_bind (wpAny_field hos hds (x := .none) rfl (wpAny_bind (wpAny_field hos hds (x := .none) rfl (wpAny_bind (wpAny_field hos hds (x := vs) rfl (wpAny_pure ?_)))))))
  refine wpAny_bind (slicePart_ ps ?_)
  show wpAny _ _ (if ((-1 : Int) == 0) = true then _ else _) _ _ s
  rw [if_neg (by decide)]
  refine wpAny_bind (slicePart_none (wpAny_bind (slicePart_none (wpAny_bind (wpAny_pure ?_)))))
  exact wpAny_pure h
theorem getItem_pair_rev {t sl : Addr} {x y vs : Value} {Q : Value → Shared → Prop} (ht : IsTup s.heap t [x, y].toArray) (hs : s.heap.IsSliceOf sl .none .none vs) (ps : IsPart vs (some (-1)))
    (h : Q (.ref s.heap.objs.size) { s with heap := s.heap.push { cls := .type "tuple", data := .seq [y, x].toArray } }) : wpAny (model prog w) A (getItem (.ref t) (.ref sl)) Q E s := by
  have htake : sizeOk (.seq [y, x].toArray) := by
    show 2 ≤ sizeLine
    decide
  obtain ⟨os, hos, hcs, hds⟩ := id hs
  have hTs : s.TypeIs (.ref sl) "slice" := ⟨os, hos, hcs⟩
  unfold getItem
  try with_reducible refine wpAny_holding ?_
  first | refine wpAny_bind (wpAny_pure ?_) | skip
  refine wpAny_bind (wpAny_sequenceKey ht.typeIs (by decide) ?_)
  refine wpAny_bind (wpAny_callSpecial?_slot (name := Str.ofString "__getitem__") ht.typeIs PyProof.Rows.slot_tuple_getitem
    (wpAny_call_entry PyProof.Rows.slot_tuple_getitem ht.typeIs entry_tuple_getitem ?_ (args_tuple_getitem _ _)))
  show wpAny _ _ (Builtin.Tuple.tupleItemsOf (.ref t) >>= _) _ _ s
  refine wpAny_bind (tupleItemsOf_ ht ?_)
  refine wpAny_bind (wpAny_typeOf hTs ?_)
  rw [if_pos (by decide)]
  refine wpAny_bind (applied_rev2 hs ps ?_)
  show wpAny _ _ (if (((1 : Int)) == 0 && (-1 : Int) == 1 && 2 == 2) = true then _ else _) _ _ s
  rw [if_neg (by decide)]
  have e : ((List.range 2).filterMap fun (m : Nat) => ([x, y].toArray)[((1 : Int) + (m : Int) * (-1)).toNat]?).toArray = [y, x].toArray := rfl
  rw [e]
  first
    | exact wpAny_bind (m := Builtin.Tuple.tupleExact _) (wpAny_newObj_type (wpAny_pure ⟨_, rfl, wpAny_pure h⟩) htake)
    | exact wpAny_bind (m := Builtin.Tuple.tupleExact _) (wpAny_newObj_type (wpAny_bind (wpAny_pure (wpAny_pure ⟨_, rfl, wpAny_pure h⟩))) htake)
    | exact wpAny_bind (wpAny_bind (m := Builtin.Tuple.tupleExact _) (wpAny_newObj_type (wpAny_pure (wpAny_pure ⟨_, rfl, wpAny_pure h⟩)) htake))
    | exact wpAny_bind (wpAny_bind (m := Builtin.Tuple.tupleExact _) (wpAny_newObj_type (wpAny_pure ⟨_, rfl, wpAny_pure h⟩) htake))
end
end HT
namespace TT
open PySem PySem.Spec PyProof.Rows L2
/-- xs[::-1] of a list, of a pair -/
def tRev2 (K : PySem.W.Frag) (te : TE) : TE := fun σ H Q => te σ H fun x H1 => ∃ a, x = .ref a ∧ ((∃ xs, SqL K H1 a xs ∧ ∀ p, H1 p = none → Q (.ref p) (upd H1 p (.lst xs.reverse))) ∨ ∃ v w, SqT K H1 a [v, w] ∧ ∀ p, H1 p = none → Q (.ref p) (upd H1 p (.tup [w, v])))
theorem pe_rev2 {X : Cx} {e : Expr} {te : TE} {k : Nat} {p1 p2 p3 pos : Pos} (he : PE X e te) : PE X (.Subscript e (.Slice none none (some (.UnaryOp .USub (.Constant (.int 1) k p1) p2)) p3) pos) (tRev2 X.K te) := by
  refine ⟨fun pins s σ H Q I h => ?_⟩
  refine Subscript_ (thn (he.run pins s σ H _ I h) fun v s1 ⟨x, H1, I1, r1, q1⟩ => ?_)
  obtain ⟨a, ex, q⟩ := q1
  subst ex
  cases r1
  have hst : PO X (some (.UnaryOp .USub (.Constant (.int 1) k p1) p2)) (tPart (tUn (rU fun i => .int (-i)) (tC (.int 1)))) := po_some (pe_un un_neg pe_int)
  refine wpAny_Slice (thn (po_none.run pins s1 σ H1 (fun o H2 => o = none ∧ H2 = H1) I1 ⟨rfl, rfl⟩) fun vl s2 ⟨l, H2, I2, pl, el, e2⟩ => ?_)
  subst el e2
  refine thn (po_none.run pins s2 σ H2 (fun o H3 => o = none ∧ H3 = H2) I2 ⟨rfl, rfl⟩) fun vu s3 ⟨u, H3, I3, pu, eu, e3⟩ => ?_
  subst eu e3
  refine thn (hst.run pins s3 σ H3 (fun o H4 => o = some (-1) ∧ H4 = H3) I3 ⟨1, rfl, -1, rfl, rfl, rfl⟩) fun vs s4 ⟨o, H4, I4, ps, eo, e4⟩ => ?_
  subst eo e4
  have I5 : Inv X pins σ H4 { s4 with heap := s4.heap.push { cls := .type "slice", data := .fields #[vl, vu, vs] } } := I4.kept (t' := s4.toks) fun b ob q => Heap.get?_push_of_some _ q
  rcases q with ⟨xs, hx, q⟩ | ⟨v, w, hx, q⟩
  · obtain ⟨its, r, ht, hz⟩ := I5.list hx
    have hlen := r.length
    show wpAny (model X.prog X.w) X.A (subscriptTail e (.Slice none none (some (.UnaryOp .USub (.Constant (.int 1) k p1) p2)) p3) (.ref a) (.ref s4.heap.objs.size)) (EP X pins σ Q) X.xe { s4 with heap := s4.heap.push { cls := .type "slice", data := .fields #[vl, vu, vs] } }
    refine tail_any (ops := [.ref a, .ref s4.heap.objs.size]) ht.isList.typeIs (PySem.slot_list_getitem.lookup) ?_ (by with_unfolding_all rfl)
    refine wpAny_getItem_list_slice ht.isList (Heap.IsSliceOf.new _ vl vu vs) pl pu ps (by decide) ?_ (by rw [List.size_toArray]; omega)
    rw [PySem.W.krv_pick]
    refine ⟨.ref _, _, I5.laid (t' := s4.toks) (o := .lst xs.reverse) (fun b ob q => Heap.get?_push_of_some _ q) (Nat.le_refl _) ?_, rfl, q _ (I5.hok.fresh (Nat.le_refl _))⟩
    exact ⟨by rw [List.length_reverse]; exact hz, _, 0, r.reverse, Heap.get?_push_size _ rfl⟩
  · obtain ⟨its, r, ht, hz⟩ := I5.tuple hx
    cases r with
    | @cons _ x1 _ its1 r1 r' =>
      cases r' with
      | @cons _ x2 _ its2 r2 r'' =>
        cases r''
        cases pl
        cases pu
        show wpAny (model X.prog X.w) X.A (subscriptTail e (.Slice none none (some (.UnaryOp .USub (.Constant (.int 1) k p1) p2)) p3) (.ref a) (.ref s4.heap.objs.size)) (EP X pins σ Q) X.xe { s4 with heap := s4.heap.push { cls := .type "slice", data := .fields #[.none, .none, vs] } }
        refine tail_any (ops := [.ref a, .ref s4.heap.objs.size]) ht.typeIs (PyProof.Rows.slot_tuple_getitem.lookup) ?_ (by with_unfolding_all rfl)
        refine HT.getItem_pair_rev ht (Heap.IsSliceOf.new _ _ _ vs) ps ?_
        refine ⟨.ref _, _, I5.laid (t' := s4.toks) (o := .tup [w, v]) (fun b ob q => Heap.get?_push_of_some _ q) (Nat.le_refl _) ?_, rfl, q _ (I5.hok.fresh (Nat.le_refl _))⟩
        exact ⟨(by decide : 2 ≤ sizeLine), _, .cons r2 (.cons r1 .nil), IsTup.new _ _⟩
def gSRev : D → (D → Prop) → Prop := fun d Q => match d with
  | .lst _ ds => Q (.lst true (frzL ds).reverse)
  | .tup [a, b] => Q (.tup [frz b, frz a])
  | _ => False
theorem je_sRev {X : Cx} {W : WX} {G : Bg} {c k : Nat} {e : Expr} {te : RE} {p1 p2 p3 pos : Pos} (he : JE X W G c e te) :
    JE X W G c (.Subscript e (.Slice none none (some (.UnaryOp .USub (.Constant (.int 1) k p1) p2)) p3) pos) (r1 te gSRev) := peImp (pe_rev2 he) fun σ H Q h => by
  obtain ⟨n, Z, env, Q', E', pr, w, t, q, x⟩ := h
  refine ⟨n, Z, env, _, E', pr, w, t, fun d v fp Z1 H1 r1 o1 t1 => ?_, x⟩
  obtain ⟨g2, o2, s2⟩ := o1.share r1.gd
  have r2 := r1.op s2 g2
  unfold gSRev at t1
  split at t1
  · rename_i ow ds
    obtain ⟨a, vs, ev, hr, hz, rr, _⟩ := o2
    refine ⟨a, ev, .inl ⟨vs, SqL.of hr, fun p hp => ?_⟩⟩
    have ol : ObL X.K G (fun a => Z1 a ∨ a ∈ fp) H1 (frzL ds).reverse vs.reverse [] := ⟨rpL_rev rfl rr, List.nodup_nil, (fun _ m => nomatch m), (fun _ m => nomatch m)⟩
    exact q _ _ [p] _ _ (r2.op (Stp.new hp fun b m => .inr (List.mem_singleton.mp m)) (r2.gd.new hp)) (ob_lst r2.gd ol hp) t1
  · rename_i da db
    obtain ⟨a, vs, ev, hr, rr⟩ := o2
    obtain ⟨v1, us, f1, f2, e1, ra, rb, ef⟩ := rr
    obtain ⟨v2, us2, f3, f4, e2, rb1, rn, ef2⟩ := rb
    obtain ⟨en, ef3⟩ := rn
    subst e1 e2 en
    obtain ⟨z1, z2⟩ := List.append_eq_nil_iff.mp ef.symm
    subst z1 z2
    obtain ⟨z3, z4⟩ := List.append_eq_nil_iff.mp ef2.symm
    subst z3 z4
    refine ⟨a, ev, .inr ⟨v1, v2, SqT.of hr, fun p hp => ?_⟩⟩
    have ol : ObL X.K G (fun a => Z1 a ∨ a ∈ fp) H1 [frz db, frz da] [v2, v1] [] := ⟨⟨v2, _, [], [], rfl, rb1, ⟨v1, _, [], [], rfl, ra, ⟨rfl, rfl⟩, rfl⟩, rfl⟩, List.nodup_nil, (fun _ m => nomatch m), (fun _ m => nomatch m)⟩
    exact q _ _ [] _ _ (r2.op (Stp.new hp fun b m => .inl m) (r2.gd.new hp)) (ob_tup (n := n) ol hp) t1
  · exact t1.elim
end TT

set_option Elab.async false
set_option linter.all false
set_option maxRecDepth 100000
set_option maxHeartbeats 2000000
namespace TT
open PySem PySem.Spec PyProof.Rows L2
/-! ### dicts whose keys are texts: {'A': 0, 'B': 0}, d[x], d[x] = e -/
theorem valV_at {k : Key} : ∀ {ks : List Key} {vs : List V} {p : Nat} {v : V}, ks.Nodup → ks.length = vs.length → ks[p]? = some k → vs[p]? = some v → valV (ks.zip vs) k = some v
  | [], _, p, v, _, _, h, _ => by simp at h
  | k0 :: ks, [], p, v, _, h, _, _ => by simp at h
  | k0 :: ks, v0 :: vs, 0, v, _, _, h, h2 => by
    cases h
    cases h2
    rw [List.zip_cons_cons, valV_pos rfl]
  | k0 :: ks, v0 :: vs, p + 1, v, nd, l, h, h2 => by
    have hm : k ∈ ks := List.mem_of_getElem? (by simpa using h)
    have hn : ¬ k0 = k := fun e => (List.nodup_cons.mp nd).1 (e ▸ hm)
    have ih := valV_at (k := k) (p := p) (List.nodup_cons.mp nd).2 (by simpa using l) (by simpa using h) (show vs[p]? = some v by simpa using h2)
    rw [List.zip_cons_cons]
    unfold valV at ih ⊢
    rw [List.find?_cons, decide_eq_false (show ¬ (k0, v0).1 = k from hn)]
    exact ih
theorem map_put {k : Key} {v : V} : ∀ {ks : List Key} {vs : List V} {p : Nat}, ks.Nodup → ks.length = vs.length → ks[p]? = some k → (ks.zip vs).map (fun kv => if kv.1 = k then (kv.1, v) else kv) = ks.zip (vs.set p v)
  | [], _, p, _, _, h => by simp at h
  | k0 :: ks, [], p, _, h, _ => by simp at h
  | k0 :: ks, v0 :: vs, 0, nd, l, h => by
    cases h
    have hn := (List.nodup_cons.mp nd).1
    rw [List.zip_cons_cons, List.map_cons, if_pos rfl, List.set_cons_zero, List.zip_cons_cons]
    congr 1
    have : ∀ x ∈ ks.zip vs, (fun kv : Key × V => if kv.1 = k then (kv.1, v) else kv) x = x := fun x m => by
      have hx := (List.of_mem_zip (a := x.1) (b := x.2) m).1
      show (if x.1 = k then _ else x) = x
      have hne : ¬ x.1 = k := fun e => hn (by rw [← e]; exact hx)
      rw [if_neg hne]
    rw [List.map_congr_left this, List.map_id']
  | k0 :: ks, v0 :: vs, p + 1, nd, l, h => by
    have hm : k ∈ ks := List.mem_of_getElem? (by simpa using h)
    have hn : ¬ k0 = k := fun e => (List.nodup_cons.mp nd).1 (e ▸ hm)
    rw [List.zip_cons_cons, List.map_cons, if_neg hn, List.set_cons_succ, List.zip_cons_cons, map_put (List.nodup_cons.mp nd).2 (by simpa using l) (by simpa using h)]
theorem putK_at {k : Key} {v : V} {ks : List Key} {vs : List V} {p : Nat} (nd : ks.Nodup) (l : ks.length = vs.length) (h : ks[p]? = some k) : putK (ks.zip vs) k v = ks.zip (vs.set p v) := by
  unfold putK
  have hp : p < ks.length := (List.getElem?_eq_some_iff.mp h).1
  have hany : ((ks.zip vs).any fun kv => decide (kv.1 = k)) = true := by
    rw [List.any_eq_true]
    refine ⟨(k, vs[p]'(by omega)), List.mem_of_getElem? (i := p) ?_, by simp⟩
    rw [List.getElem?_zip_eq_some]
    exact ⟨h, List.getElem?_eq_getElem _⟩
  rw [if_pos hany]
  exact map_put nd l h
/-- which place a text has among the keys -/
def kixS (x : Str) (ks : List Key) (p : Nat) : Prop := ks.Nodup ∧ ks.length ≤ 15 ∧ ks[p]? = some (.inr x)
def gCGet : D → D → (D → Prop) → Prop := fun x y Q => match x, y with
  | .dct false ks ds, .str z => ∃ p d, kixS z ks p ∧ ds[p]? = some d ∧ Q d
  | _, _ => False
def rCPut (i : Nat) (ix : Ev → Option D) (t : RM) : RS := fun P env => t env (fun d env' => match env'[i]?, ix env' with
  | some (some (.dct true ks ds)), some (.str z) => ∃ p, kixS z ks p ∧ p < ds.length ∧ P.nx (env'.set i (some (.dct true ks (ds.set p d))))
  | _, _ => False) (fun x env' => P.ex x env')
def rCnt (x y : Str) (i j : Int) : RE := fun _ Q _ => x ≠ y ∧ Q (.dct true [.inr x, .inr y] [.int i, .int j])
section
variable {X : Cx} {W : WX} {G : Bg} {c c1 c2 : Nat} {a b e o ie : Expr} {ta tb : RE} {pos ipos : Pos}
theorem v_cget : VOp2 X G (fun x y H Q => ∃ a v, x = .ref a ∧ DGet H a y (some v) ∧ Q v H) gCGet := by
  intro n Z H dx x fx dy y fy Q' Q g ox oy ap t q
  unfold gCGet at t
  split at t
  · rename_i ks ds z
    obtain ⟨p, d, ⟨nd, _, hk⟩, hd, t⟩ := t
    obtain ⟨ad, vs, ev, hp, l, hz, rl, ef⟩ := ox.rp
    obtain ⟨ey, efy⟩ := oy.rp
    subst ev ey ef efy
    obtain ⟨v, hv, rv⟩ := rl.get0 hd
    refine ⟨ad, v, rfl, ?_, q d v [] Z H Stp.refl0 g (Ob.flat rv) t⟩
    have := DGet.k (k := .inr z) hp
    rw [valV_at nd l hk hv] at this
    exact this
  · exact t.elim
theorem je_cget (hu : X.A.units + 65 < cLine) (ha : JE X W G c1 a ta) (hb : JE X W G c2 b tb) (hs : NoSl b := by intro _ _; rfl) : JE X W G (c1 + c2) (.Subscript a b pos) (r2 ta tb gCGet) :=
  peImp (pe_dget (by omega) ha hb hs) (tOp_of v_cget)
theorem je_cnt {x y : Str} {i j : Int} {k1 k2 k3 k4 : Nat} {p1 p2 p3 p4 : Pos} : JE X W G 0 (.Dict [some (.Constant (.str x) k1 p1), some (.Constant (.str y) k2 p2)] [.Constant (.int i) k3 p3, .Constant (.int j) k4 p4] pos) (rCnt x y i j) :=
  peImp (pe_disp (pps_cons pe_str pe_int (pps_cons pe_str pe_int pps_nil)) rfl rfl (by simp) (by show 2 ≤ 15; omega)) fun σ H Q h => by
    obtain ⟨n, Z, env, Q', E', p, w, t, q, xx⟩ := h
    intro l hl
    have g := p.gd.up (Nat.le_add_right n 0)
    refine ⟨upd_same, [(Sum.inr x, V.int i), (Sum.inr y, V.int j)], rfl, (by show 2 ≤ 15; omega), ?_⟩
    have em : mergeK [] [((Sum.inr x : Key), V.int i), ((Sum.inr y : Key), V.int j)] = [((Sum.inr x : Key), V.int i), ((Sum.inr y : Key), V.int j)] := by
      show putK (putK [] (Sum.inr x : Key) (V.int i)) (Sum.inr y : Key) (V.int j) = _
      have e1 : putK ([] : List (Key × V)) (.inr x) (.int i) = [(.inr x, .int i)] := rfl
      rw [e1]
      unfold putK
      have : ¬ (Sum.inr x : Key) = .inr y := fun z => t.1 (Sum.inr.inj z)
      simp [this]
    rw [em, L2.upd_upd]
    refine q (.dct true [.inr x, .inr y] [.int i, .int j]) _ [l] Z _ ⟨Stp.new hl fun a m => .inr (by simpa using m), g.new hl⟩ ⟨⟨l, [.int i, .int j], [], rfl, upd_same, rfl, ⟨_, _, [], [], rfl, ⟨rfl, rfl⟩, ⟨_, _, [], [], rfl, ⟨rfl, rfl⟩, ⟨rfl, rfl⟩, rfl⟩, rfl⟩, rfl⟩, List.nodup_cons.mpr ⟨(fun m => nomatch m), List.nodup_nil⟩, fun a m z => ?_, fun a m i => ?_⟩ t.2
    · have : a = l := by simpa using m
      subst this
      obtain ⟨u, e⟩ := p.gd.tr a z
      rw [hl] at e; cases e
    · have : a = l := by simpa using m
      subst this
      obtain ⟨u, e⟩ := p.gd.bag.tracked i
      rw [hl] at e; cases e
end
section
variable {K : PySem.W.Frag} {G : Bg} {n c : Nat} {Z Z1 : Zs} {H H1 : Hp} {A : List Addr} {env1 : Ev} {σ : L2.St} {F1 : List (List Addr)} {d : D} {v : V} {fp : List Addr}
theorem cnt_put {ks : List Key} {ds : List D} {i p : Nat} {k : Key} (s1 : Stt K G (n + c) Z1 H1 env1 σ F1) (st : Stp G A Z H A Z1 H1 (fp ++ F1.flatten)) (h1 : env1[i]? = some (some (.dct true ks ds))) (o1 : Ob K G Z1 H1 d v fp) (ap : ∀ a ∈ fp, ∀ b ∈ F1.flatten, a ≠ b)
    (nd : ks.Nodup) (hk : ks[p]? = some k) (hp : p < ds.length) :
    ∃ a vs F2, σ[i]? = some (some (.ref a)) ∧ H1 a = some (.dK (ks.zip vs)) ∧ ks.length = vs.length ∧ Send K G n c Z H A Z1 (env1.set i (some (.dct true ks (ds.set p d)))) σ (upd H1 a (.dK (putK (ks.zip vs) k v))) F2 := by
  obtain ⟨v1, fp1, e3, e4, rp1⟩ := s1.at_ i _ h1
  obtain ⟨a, vs, f, ev1, ha1, ll, rl, ef⟩ := rp1
  subst ef ev1
  obtain ⟨f', rl', sb, ndf⟩ := RpL.put o1.rp ds vs f p rl hp
  have nd1 : (a :: f).Nodup := by
    obtain ⟨nd, _⟩ := flat_drop F1 i (a :: f) e4 s1.nd
    exact nd
  have na : a ∉ f := (List.nodup_cons.mp nd1).1
  have ma : a ∈ F1.flatten := memF e4 a List.mem_cons_self
  have nfp : a ∉ fp := fun m => ap a m a ma rfl
  have naf : a ∉ f' := fun m => (sb a m).elim na nfp
  have kU : ∀ b u, H1 b = some u → b ∉ [a] → (upd H1 a (.dK (ks.zip (vs.set p v)))) b = some u := fun b u hb nb => by
    rw [upd_ne fun e => nb (by simp [e])]; exact hb
  have thU : ∀ b u, H1 b = some u → ∃ u', (upd H1 a (.dK (ks.zip (vs.set p v)))) b = some u' := fun b u hb => by
    by_cases hba : b = a
    · subst hba; exact ⟨_, upd_same⟩
    · exact ⟨u, by rw [upd_ne hba]; exact hb⟩
  have nZ : ¬ Z1 a := s1.nz a ma
  have kR : ∀ (fx : List Addr), a ∉ fx → ∀ b u, H1 b = some u → (¬ Mut (some u) ∨ Z1 b ∨ b ∈ fx) → (upd H1 a (.dK (ks.zip (vs.set p v)))) b = some u := fun fx hx b u hb cs => by
    refine kU b u hb fun m => ?_
    have : b = a := by simpa using m
    subst this
    rcases cs with cs | cs | cs
    · rw [ha1] at hb; cases hb; exact cs trivial
    · exact nZ cs
    · exact hx cs
  have sub1 : ∀ b ∈ (F1.set i []).flatten, b ∈ F1.flatten := fun b m => flat_set0 b m
  obtain ⟨_, ap1⟩ := flat_drop F1 i (a :: f) e4 s1.nd
  have oN : Ob K G Z1 (upd H1 a (.dK (ks.zip (vs.set p v)))) (.dct true ks (ds.set p d)) (.ref a) (a :: f') := by
    refine ⟨⟨a, vs.set p v, f', rfl, upd_same, by rw [List.length_set]; exact ll, RpL.keep (fun _ z => z) _ _ _ (kR f' naf) rl', rfl⟩, ?_, fun b m => ?_, fun b m => ?_⟩
    · exact List.nodup_cons.mpr ⟨naf, ndf (List.nodup_cons.mp nd1).2 o1.nd fun x hx b hb e => ap b hb x (memF e4 x (List.mem_cons_of_mem _ hx)) e.symm⟩
    · rcases List.mem_cons.mp m with m | m
      · rw [m]; exact nZ
      · exact (sb b m).elim (fun m => s1.nz b (memF e4 b (List.mem_cons_of_mem _ m))) (o1.nz b)
    · rcases List.mem_cons.mp m with m | m
      · rw [m]; exact s1.nb a ma
      · exact (sb b m).elim (fun m => s1.nb b (memF e4 b (List.mem_cons_of_mem _ m))) (o1.nb b)
  have sN := s1.mutate (H' := upd H1 a (.dK (ks.zip (vs.set p v)))) (M := [a]) h1 e3 e4 kU thU (fun b m => by
    have : b = a := by simpa using m
    rw [this]; exact List.mem_cons_self) oN (fun b hb b' hb' => by
    rcases List.mem_cons.mp hb with m | m
    · rw [m]; exact ap1 a List.mem_cons_self b' hb'
    · rcases sb b m with m | m
      · exact ap1 b (List.mem_cons_of_mem _ m) b' hb'
      · exact ap b m b' (sub1 b' hb'))
  refine ⟨a, vs, F1.set i (a :: f'), e3, ha1, ll, ?_⟩
  rw [putK_at nd ll hk]
  refine ⟨⟨fun b u hb nb nA => ?_, fun b u hb => ?_, st.zz, st.zn, fun b m => ?_⟩, sN⟩
  · have q1 := st.keep b u hb nb nA
    refine kU b u q1 fun m => ?_
    have : b = a := by simpa using m
    subst this
    rcases st.fn b (List.mem_append_right _ ma) with z | z
    · exact nA z
    · rw [hb] at z; cases z
  · obtain ⟨u', q1⟩ := st.there b u hb
    exact thU b u' q1
  · refine st.fn b ?_
    rcases flat_set F1 i (a :: f') b m with m | m
    · rcases List.mem_cons.mp m with m | m
      · exact List.mem_append_right _ (by rw [m]; exact ma)
      · rcases sb b m with m | m
        · exact List.mem_append_right _ (memF e4 b (List.mem_cons_of_mem _ m))
        · exact List.mem_append_left _ m
    · exact List.mem_append_right _ m
end
section
variable {X : Cx} {W : WX} {G : Bg} {c : Nat} {e o ie : Expr} {pos ipos : Pos}
theorem js_cputV {i j : Nat} {t : RM} (hu : X.A.units + 65 < cLine) (ho : PE X o (tVar i)) (hi : PE X ie (tVar j)) (he : JM X W G c e t) (hs : swapsWith e (some (.Subscript o ie ipos)) pos.line X.env = pure false := by rfl) :
    JS X W G c (.Assign [.Subscript o ie ipos] e pos) (rCPut i (ixD j) t) := psImp (ps_dput (by omega) ho hi he hs) fun Dn σ H h => by
  obtain ⟨n, Z, env, F, P, l, s, t, qn, qb, qc, qr, qx⟩ := h
  refine ⟨n, Z, env, F, _, _, l, s, t, fun d v fp Z1 env1 F1 H1 s1 o1 ap st t1 => ?_, fun x cls da Z1 env1 F1 H1 e1 xr t1 => qx x cls da Z1 env1 σ H1 F1 e1 xr t1⟩
  split at t1
  · rename_i ks ds z hx hk
    obtain ⟨p, ⟨nd, l15, hkp⟩, hp, t1⟩ := t1
    obtain ⟨a, vs, F2, es, ha, lv, sd⟩ := cnt_put (k := .inr z) s1 st hx o1 ap nd hkp hp
    unfold ixD at hk
    split at hk
    · rename_i y' hj
      cases hk
      obtain ⟨vj, fj, ej, _, rj⟩ := s1.at_ j _ hj
      obtain ⟨evj, _⟩ := rj
      subst evj
      refine ⟨.ref a, es, .str z, ej, a, _, rfl, DPut.k (k := .inr z) ha ?_, qn Z1 _ σ _ F2 sd t1⟩
      rw [List.length_zip, ← lv, sizeLine_eq]
      omega
    · cases hk
  · exact t1.elim
end
end TT

set_option Elab.async false
set_option linter.all false
set_option maxRecDepth 100000
set_option maxHeartbeats 1000000
namespace My
open PySem PySem.Spec PyProof.Rows L2 TT
/-! ### matches, level by level and point by point -/
abbrev Sc := Int × Int
abbrev Rl := List (Int × Int)
def unit (s : Sc) (b : Bool) : Sc := if b then (s.1 + 1, s.2) else (s.1, s.2 + 1)
def won (r : Sc) (own other : Int) : Bool := decide (r.1 ≤ own) && decide (r.2 ≤ own - other)
def wins (r s : Sc) (b : Bool) : Bool := if b then won r s.1 s.2 else won r s.2 s.1
def step : Rl → List Sc → Bool → List Sc × Bool
  | [], ss, _ => (ss, true)
  | r :: rs, s :: ss, b => if wins r (unit s b) b then (match rs with
      | [] => (unit s b :: ss, true)
      | r2 :: rs2 => ((0, 0) :: (step (r2 :: rs2) ss b).1, (step (r2 :: rs2) ss b).2)) else (unit s b :: ss, false)
  | _ :: _, [], _ => ([], false)
def zeros (rs : Rl) : List Sc := rs.map fun _ => (0, 0)
def st (rs : Rl) (l : List Bool) : List Sc := l.foldl (fun ss b => (step rs ss b).1) (zeros rs)
/-- never over -/
def Opn (rs : Rl) (l : List Bool) : Prop := ∀ p b q, l = p ++ b :: q → (step rs (st rs p) b).2 = false
def Fin (rs : Rl) (l : List Bool) : Prop := ∃ p b, l = p ++ [b] ∧ Opn rs p ∧ (step rs (st rs p) b).2 = true
/-- the lines of a level -/
def lnF (r : Sc) (a : List (Sc × Bool) × Sc) (b : Bool) : List (Sc × Bool) × Sc := if wins r (unit a.2 b) b then (a.1 ++ [(unit a.2 b, b)], (0, 0)) else (a.1, unit a.2 b)
def ln (r : Sc) (l : List Bool) : List (Sc × Bool) × Sc := l.foldl (lnF r) ([], (0, 0))
def wn (r : Sc) (l : List Bool) : List Bool := (ln r l).1.map Prod.snd
def tail0 (s : Sc) : List Sc := if s = (0, 0) then [] else [s]
def lnS (r : Sc) (l : List Bool) : List Sc := (ln r l).1.map Prod.fst ++ tail0 (ln r l).2
def up (rs : Rl) (l : List Bool) : List Bool := rs.foldl (fun u r => wn r u) l
def opens : Rl → List Bool → List Sc
  | [], _ => []
  | r :: rs, l => (ln r l).2 :: opens rs (wn r l)
theorem ln_snoc (r : Sc) (l : List Bool) (b : Bool) : ln r (l ++ [b]) = lnF r (ln r l) b := by
  unfold ln
  rw [List.foldl_append]; rfl
theorem wn_yes {r : Sc} {l : List Bool} {b : Bool} (h : wins r (unit (ln r l).2 b) b = true) : wn r (l ++ [b]) = wn r l ++ [b] ∧ (ln r (l ++ [b])).2 = (0, 0) := by
  unfold wn
  rw [ln_snoc]
  unfold lnF
  rw [if_pos h]
  exact ⟨by rw [List.map_append]; rfl, rfl⟩
theorem wn_no {r : Sc} {l : List Bool} {b : Bool} (h : wins r (unit (ln r l).2 b) b = false) : wn r (l ++ [b]) = wn r l ∧ (ln r (l ++ [b])).2 = unit (ln r l).2 b := by
  unfold wn
  rw [ln_snoc]
  unfold lnF
  rw [if_neg (by rw [h]; decide)]
  exact ⟨rfl, rfl⟩
theorem up_cons (r : Sc) (rs : Rl) (l : List Bool) : up (r :: rs) l = up rs (wn r l) := rfl
theorem opens_step : ∀ (rs : Rl) (l : List Bool) (b : Bool), rs ≠ [] → ((step rs (opens rs l) b).2 = false → opens rs (l ++ [b]) = (step rs (opens rs l) b).1 ∧ up rs (l ++ [b]) = up rs l) ∧ ((step rs (opens rs l) b).2 = true → up rs (l ++ [b]) = up rs l ++ [b])
  | [], l, b, h => absurd rfl h
  | [r], l, b, _ => by
    cases hw : wins r (unit (ln r l).2 b) b with
    | false =>
      obtain ⟨h1, h2⟩ := wn_no hw
      have e : step [r] (opens [r] l) b = ([unit (ln r l).2 b], false) := if_neg (by rw [hw]; decide)
      rw [e]
      refine ⟨fun _ => ⟨?_, ?_⟩, (fun z => nomatch z)⟩
      · show [(ln r (l ++ [b])).2] = _
        rw [h2]
      · show wn r (l ++ [b]) = wn r l
        exact h1
    | true =>
      obtain ⟨h1, h2⟩ := wn_yes hw
      have e : step [r] (opens [r] l) b = ([unit (ln r l).2 b], true) := if_pos hw
      rw [e]
      exact ⟨(fun z => nomatch z), fun _ => h1⟩
  | r :: r2 :: rs, l, b, _ => by
    obtain ⟨i1, i2⟩ := opens_step (r2 :: rs) (wn r l) b (by simp)
    cases hw : wins r (unit (ln r l).2 b) b with
    | false =>
      obtain ⟨h1, h2⟩ := wn_no hw
      have e : step (r :: r2 :: rs) (opens (r :: r2 :: rs) l) b = (unit (ln r l).2 b :: opens (r2 :: rs) (wn r l), false) := if_neg (by rw [hw]; decide)
      rw [e]
      refine ⟨fun _ => ⟨?_, ?_⟩, (fun z => nomatch z)⟩
      · show (ln r (l ++ [b])).2 :: opens (r2 :: rs) (wn r (l ++ [b])) = _
        rw [h1, h2]
      · show up (r2 :: rs) (wn r (l ++ [b])) = up (r2 :: rs) (wn r l)
        rw [h1]
    | true =>
      obtain ⟨h1, h2⟩ := wn_yes hw
      have e : step (r :: r2 :: rs) (opens (r :: r2 :: rs) l) b = ((0, 0) :: (step (r2 :: rs) (opens (r2 :: rs) (wn r l)) b).1, (step (r2 :: rs) (opens (r2 :: rs) (wn r l)) b).2) := if_pos hw
      rw [e]
      refine ⟨fun z => ?_, fun z => ?_⟩
      · obtain ⟨j1, j2⟩ := i1 z
        refine ⟨?_, ?_⟩
        · show (ln r (l ++ [b])).2 :: opens (r2 :: rs) (wn r (l ++ [b])) = _
          rw [h1, h2, j1]
        · show up (r2 :: rs) (wn r (l ++ [b])) = up (r2 :: rs) (wn r l)
          rw [h1, j2]
      · show up (r2 :: rs) (wn r (l ++ [b])) = up (r2 :: rs) (wn r l) ++ [b]
        rw [h1, i2 z]
theorem opens_nil : ∀ rs : Rl, opens rs [] = zeros rs
  | [] => rfl
  | r :: rs => by
    show (0, 0) :: opens rs [] = _
    rw [opens_nil rs]; rfl
theorem up_nil : ∀ rs : Rl, up rs [] = []
  | [] => rfl
  | r :: rs => up_nil rs
theorem st_snoc (rs : Rl) (l : List Bool) (b : Bool) : st rs (l ++ [b]) = (step rs (st rs l) b).1 := by
  unfold st
  rw [List.foldl_append]; rfl
theorem Opn.pre {rs : Rl} {l q : List Bool} (h : Opn rs (l ++ q)) : Opn rs l := fun p b r e => h p b (r ++ q) (by rw [e]; simp)
theorem rev_ind {P : List Bool → Prop} (h0 : P []) (hs : ∀ l b, P l → P (l ++ [b])) : ∀ l, P l := fun l => by
  have : ∀ m : List Bool, P m.reverse := fun m => by
    induction m with
    | nil => exact h0
    | cons b m ih => rw [List.reverse_cons]; exact hs _ _ ih
  have := this l.reverse
  rwa [List.reverse_reverse] at this
theorem opn_opens {rs : Rl} (hr : rs ≠ []) : ∀ l, Opn rs l → st rs l = opens rs l ∧ up rs l = [] := by
  refine rev_ind (fun _ => ⟨(opens_nil rs).symm, up_nil rs⟩) fun l b ih h => ?_
  obtain ⟨h1, h2⟩ := ih h.pre
  have hs := h l b [] rfl
  rw [h1] at hs
  obtain ⟨j1, j2⟩ := (opens_step rs l b hr).1 hs
  rw [st_snoc, h1]
  exact ⟨j1.symm, by rw [j2, h2]⟩
theorem fin_up {rs : Rl} (hr : rs ≠ []) {p : List Bool} {b : Bool} (h : Opn rs p) (ho : (step rs (st rs p) b).2 = true) : up rs (p ++ [b]) = [b] := by
  obtain ⟨h1, h2⟩ := opn_opens hr p h
  rw [h1] at ho
  rw [(opens_step rs p b hr).2 ho, h2]; rfl
/-! a beginning and the whole -/
theorem ln_app (r : Sc) (u v : List Bool) : ln r (u ++ v) = v.foldl (lnF r) (ln r u) := by unfold ln; rw [List.foldl_append]
theorem lnF_grow (r : Sc) : ∀ (v : List Bool) (a : List (Sc × Bool) × Sc), ∃ m, (v.foldl (lnF r) a).1 = a.1 ++ m ∧ ((0 ≤ a.2.1 ∧ 0 ≤ a.2.2) → (0 ≤ (v.foldl (lnF r) a).2.1 ∧ 0 ≤ (v.foldl (lnF r) a).2.2) ∧ (a.2 ≠ (0, 0) → m ≠ [] ∨ (v.foldl (lnF r) a).2 ≠ (0, 0)))
  | [], a => ⟨[], by simp, fun h => ⟨h, fun z => .inr z⟩⟩
  | b :: v, a => by
    obtain ⟨m, h1, h2⟩ := lnF_grow r v (lnF r a b)
    have hl : (b :: v).foldl (lnF r) a = v.foldl (lnF r) (lnF r a b) := rfl
    rw [hl]
    unfold lnF at h1 h2 ⊢
    by_cases hw : wins r (unit a.2 b) b = true
    · rw [if_pos hw] at h1 h2 ⊢
      refine ⟨(unit a.2 b, b) :: m, by rw [h1]; simp, fun h => ⟨(h2 ⟨Int.le_refl 0, Int.le_refl 0⟩).1, fun _ => .inl (by simp)⟩⟩
    · rw [if_neg hw] at h1 h2 ⊢
      refine ⟨m, h1, fun h => ?_⟩
      have hu : 0 ≤ (unit a.2 b).1 ∧ 0 ≤ (unit a.2 b).2 := by unfold unit; cases b <;> simp <;> omega
      obtain ⟨j1, j2⟩ := h2 hu
      refine ⟨j1, fun hz => j2 fun e => ?_⟩
      have e1 := congrArg Prod.fst e
      have e2 := congrArg Prod.snd e
      unfold unit at e1 e2
      cases b <;> simp at e1 e2 <;> omega
theorem ln_nn (r : Sc) (u : List Bool) : 0 ≤ (ln r u).2.1 ∧ 0 ≤ (ln r u).2.2 := by
  obtain ⟨m, _, h⟩ := lnF_grow r u ([], (0, 0))
  exact (h ⟨by decide, by decide⟩).1
theorem wn_pre (r : Sc) (u v : List Bool) : ∃ w, wn r (u ++ v) = wn r u ++ w := by
  obtain ⟨m, h, _⟩ := lnF_grow r v (ln r u)
  unfold wn
  rw [ln_app, h]
  exact ⟨_, List.map_append⟩
theorem up_pre : ∀ (rs : Rl) (u v : List Bool), ∃ w, up rs (u ++ v) = up rs u ++ w
  | [], u, v => ⟨v, rfl⟩
  | r :: rs, u, v => by
    obtain ⟨w, e⟩ := wn_pre r u v
    rw [up_cons, up_cons, e]
    exact up_pre rs _ _
theorem lnS_pre (r : Sc) (u v : List Bool) : (lnS r u).length ≤ (lnS r (u ++ v)).length ∧ (lnS r u).take ((lnS r u).length - 1) = (lnS r (u ++ v)).take ((lnS r u).length - 1) := by
  obtain ⟨m, h1, h2⟩ := lnF_grow r v (ln r u)
  obtain ⟨_, h3⟩ := h2 (ln_nn r u)
  have e : lnS r (u ++ v) = (ln r u).1.map Prod.fst ++ (m.map Prod.fst ++ tail0 (ln r (u ++ v)).2) := by
    unfold lnS
    rw [ln_app, h1, List.map_append, List.append_assoc]
  rw [e]
  unfold lnS
  by_cases hz : (ln r u).2 = (0, 0)
  · have t0 : tail0 (ln r u).2 = [] := if_pos hz
    rw [t0, List.append_nil]
    refine ⟨by rw [List.length_append]; omega, ?_⟩
    rw [List.take_append_of_le_length (by omega)]
  · have t1 : tail0 (ln r u).2 = [(ln r u).2] := if_neg hz
    rw [t1]
    constructor
    · rcases h3 hz with hm | hs
      · have : 0 < m.length := List.length_pos_iff.mpr hm
        simp only [List.length_append, List.length_map, List.length_singleton]
        omega
      · rw [← ln_app] at hs
        have : tail0 (ln r (u ++ v)).2 = [(ln r (u ++ v)).2] := if_neg hs
        rw [this]
        simp only [List.length_append, List.length_map, List.length_singleton]
        omega
    · rw [List.length_append, List.length_singleton, Nat.add_sub_cancel]
      rw [List.take_append_of_le_length (Nat.le_refl _), List.take_append_of_le_length (Nat.le_refl _)]
/-! sizes -/
theorem lnF_len (r : Sc) : ∀ (v : List Bool) (a : List (Sc × Bool) × Sc), (0 ≤ a.2.1 ∧ 0 ≤ a.2.2) → (v.foldl (lnF r) a).1.length ≤ a.1.length + v.length ∧ (v.foldl (lnF r) a).2.1 ≤ a.2.1 + v.length ∧ (v.foldl (lnF r) a).2.2 ≤ a.2.2 + v.length
  | [], a, _ => ⟨Nat.le_refl _, by simp, by simp⟩
  | b :: v, a, h => by
    have hl : (b :: v).foldl (lnF r) a = v.foldl (lnF r) (lnF r a b) := rfl
    have hu : 0 ≤ (unit a.2 b).1 ∧ 0 ≤ (unit a.2 b).2 ∧ (unit a.2 b).1 ≤ a.2.1 + 1 ∧ (unit a.2 b).2 ≤ a.2.2 + 1 := by unfold unit; cases b <;> simp <;> omega
    rw [hl, List.length_cons]
    by_cases hw : wins r (unit a.2 b) b = true
    · have e : lnF r a b = (a.1 ++ [(unit a.2 b, b)], (0, 0)) := if_pos hw
      have := lnF_len r v (lnF r a b) (by rw [e]; exact ⟨Int.le_refl 0, Int.le_refl 0⟩)
      rw [e] at this ⊢
      simp only [List.length_append, List.length_singleton] at this
      push_cast
      omega
    · have e : lnF r a b = (a.1, unit a.2 b) := if_neg hw
      have := lnF_len r v (lnF r a b) (by rw [e]; exact ⟨hu.1, hu.2.1⟩)
      rw [e] at this ⊢
      simp only at this
      push_cast
      omega
theorem wn_len (r : Sc) (u : List Bool) : (wn r u).length ≤ u.length := by
  have := (lnF_len r u ([], (0, 0)) ⟨by decide, by decide⟩).1
  unfold wn ln
  rw [List.length_map]
  simpa using this
theorem ln_le (r : Sc) (u : List Bool) : (ln r u).2.1 ≤ u.length ∧ (ln r u).2.2 ≤ u.length := by
  have := (lnF_len r u ([], (0, 0)) ⟨by decide, by decide⟩).2
  unfold ln
  simpa using this
theorem up_len : ∀ (rs : Rl) (u : List Bool), (up rs u).length ≤ u.length
  | [], u => Nat.le_refl _
  | r :: rs, u => by
    rw [up_cons]
    exact Nat.le_trans (up_len rs _) (wn_len r u)
theorem lnS_len (r : Sc) (u : List Bool) : (lnS r u).length ≤ u.length + 1 := by
  have := wn_len r u
  unfold wn at this
  rw [List.length_map] at this
  unfold lnS tail0
  rw [List.length_append, List.length_map]
  split <;> simp <;> omega
/-! one side goes on winning: how many points are left -/
def need (r s : Sc) (b : Bool) : Nat := max 1 (if b then max (r.1 - s.1) (r.2 - (s.1 - s.2)) else max (r.1 - s.2) (r.2 - (s.2 - s.1))).toNat
def left : Rl → List Sc → Bool → Nat
  | [], _, _ => 1
  | _ :: _, [], _ => 1
  | [r], s :: _, b => need r s b
  | r :: r2 :: rs, s :: ss, b => need r s b + r.1.toNat * (left (r2 :: rs) ss b - 1)
theorem need_pos (r s : Sc) (b : Bool) : 1 ≤ need r s b := Nat.le_max_left _ _
theorem left_pos : ∀ (rs : Rl) (ss : List Sc) (b : Bool), 1 ≤ left rs ss b
  | [], _, _ => Nat.le_refl _
  | _ :: _, [], _ => by unfold left; exact Nat.le_refl _
  | [r], s :: ss, b => need_pos r s b
  | r :: r2 :: rs, s :: ss, b => Nat.le_trans (need_pos r s b) (Nat.le_add_right _ _)
theorem need_zero {r : Sc} (h : 1 ≤ r.2 ∧ r.2 ≤ r.1) (b : Bool) : need r (0, 0) b = r.1.toNat := by
  unfold need
  cases b <;> simp <;> omega
theorem need_down {r s : Sc} {b : Bool} (h : wins r (unit s b) b = false) : need r (unit s b) b < need r s b := by
  unfold wins won unit at h
  unfold need unit
  cases b <;> simp at h ⊢ <;> omega
def Valid (rs : Rl) : Prop := ∀ r ∈ rs, 1 ≤ r.2 ∧ r.2 ≤ r.1
theorem left_down : ∀ (rs : Rl) (ss : List Sc) (b : Bool), Valid rs → rs.length = ss.length → (step rs ss b).2 = false → left rs (step rs ss b).1 b < left rs ss b
  | [], ss, b, _, _, h => nomatch h
  | r :: rs, [], b, _, hl, _ => by simp at hl
  | [r], s :: ss, b, hv, hl, h => by
    cases hw : wins r (unit s b) b with
    | true =>
      have e : step [r] (s :: ss) b = (unit s b :: ss, true) := if_pos hw
      rw [e] at h; cases h
    | false =>
      have e : step [r] (s :: ss) b = (unit s b :: ss, false) := if_neg (by rw [hw]; decide)
      rw [e]
      exact need_down hw
  | r :: r2 :: rs, s :: ss, b, hv, hl, h => by
    cases hw : wins r (unit s b) b with
    | true =>
      have e : step (r :: r2 :: rs) (s :: ss) b = ((0, 0) :: (step (r2 :: rs) ss b).1, (step (r2 :: rs) ss b).2) := if_pos hw
      rw [e] at h ⊢
      have ih := left_down (r2 :: rs) ss b (fun q m => hv q (List.mem_cons_of_mem _ m)) (by simpa using hl) h
      have hp := left_pos (r2 :: rs) (step (r2 :: rs) ss b).1 b
      have hn := need_pos r s b
      have h0 := need_zero (hv r (List.mem_cons_self ..)) b
      show need r (0, 0) b + r.1.toNat * (left (r2 :: rs) (step (r2 :: rs) ss b).1 b - 1) < need r s b + r.1.toNat * (left (r2 :: rs) ss b - 1)
      rw [h0]
      have h1 : r.1.toNat + r.1.toNat * (left (r2 :: rs) (step (r2 :: rs) ss b).1 b - 1) = r.1.toNat * (left (r2 :: rs) (step (r2 :: rs) ss b).1 b - 1 + 1) := by rw [Nat.mul_add, Nat.mul_one, Nat.add_comm]
      rw [h1]
      have h2 : r.1.toNat * (left (r2 :: rs) (step (r2 :: rs) ss b).1 b - 1 + 1) ≤ r.1.toNat * (left (r2 :: rs) ss b - 1) := Nat.mul_le_mul_left _ (by omega)
      omega
    | false =>
      have e : step (r :: r2 :: rs) (s :: ss) b = (unit s b :: ss, false) := if_neg (by rw [hw]; decide)
      rw [e]
      have := need_down hw
      show need r (unit s b) b + r.1.toNat * (left (r2 :: rs) ss b - 1) < need r s b + r.1.toNat * (left (r2 :: rs) ss b - 1)
      omega
/-- a bound of what is left -/
def cap (B : Nat) : Rl → Nat
  | [] => 1
  | r :: rs => B + r.1.toNat * cap B rs
theorem need_le {r s : Sc} {b : Bool} {B : Nat} (h1 : 1 ≤ r.2 ∧ r.2 ≤ r.1) (h2 : 0 ≤ s.1 ∧ 0 ≤ s.2) (hB : r.1 + s.1 ≤ B ∧ r.1 + s.2 ≤ B) : need r s b ≤ B := by
  unfold need
  cases b <;> simp <;> omega
theorem left_le {B : Nat} : ∀ (rs : Rl) (ss : List Sc) (b : Bool), Valid rs → (1 ≤ B) → (∀ r ∈ rs, ∀ s ∈ ss, (0 ≤ s.1 ∧ 0 ≤ s.2) ∧ r.1 + s.1 ≤ B ∧ r.1 + s.2 ≤ B) → left rs ss b ≤ cap B rs
  | [], _, _, _, _, _ => Nat.le_refl _
  | _ :: _, [], _, _, h, _ => by unfold left cap; omega
  | [r], s :: ss, b, hv, hB, h => by
    obtain ⟨h1, h2⟩ := h r (List.mem_cons_self ..) s (List.mem_cons_self ..)
    have := need_le (b := b) (hv r (List.mem_cons_self ..)) h1 h2
    show need r s b ≤ B + _
    omega
  | r :: r2 :: rs, s :: ss, b, hv, hB, h => by
    obtain ⟨h1, h2⟩ := h r (List.mem_cons_self ..) s (List.mem_cons_self ..)
    have i1 := need_le (b := b) (hv r (List.mem_cons_self ..)) h1 h2
    have i2 := left_le (r2 :: rs) ss b (fun q m => hv q (List.mem_cons_of_mem _ m)) hB fun q m s' m' => h q (List.mem_cons_of_mem _ m) s' (List.mem_cons_of_mem _ m')
    show need r s b + r.1.toNat * (left (r2 :: rs) ss b - 1) ≤ B + r.1.toNat * cap B (r2 :: rs)
    have : r.1.toNat * (left (r2 :: rs) ss b - 1) ≤ r.1.toNat * cap B (r2 :: rs) := Nat.mul_le_mul_left _ (by omega)
    omega
/-! the lower races of a rule, and the upper -/
theorem opens_over : ∀ (rs : Rl) (l : List Bool) (b : Bool), rs ≠ [] → (step rs (opens rs l) b).2 = true → opens rs (l ++ [b]) = zeros rs
  | [], l, b, h, _ => absurd rfl h
  | [r], l, b, _, z => by
    cases hw : wins r (unit (ln r l).2 b) b with
    | false =>
      have e : step [r] (opens [r] l) b = ([unit (ln r l).2 b], false) := if_neg (by rw [hw]; decide)
      rw [e] at z; cases z
    | true =>
      show [(ln r (l ++ [b])).2] = _
      rw [(wn_yes hw).2]; rfl
  | r :: r2 :: rs, l, b, _, z => by
    cases hw : wins r (unit (ln r l).2 b) b with
    | false =>
      have e : step (r :: r2 :: rs) (opens (r :: r2 :: rs) l) b = (unit (ln r l).2 b :: opens (r2 :: rs) (wn r l), false) := if_neg (by rw [hw]; decide)
      rw [e] at z; cases z
    | true =>
      have e : step (r :: r2 :: rs) (opens (r :: r2 :: rs) l) b = ((0, 0) :: (step (r2 :: rs) (opens (r2 :: rs) (wn r l)) b).1, (step (r2 :: rs) (opens (r2 :: rs) (wn r l)) b).2) := if_pos hw
      rw [e] at z
      obtain ⟨h1, h2⟩ := wn_yes hw
      show (ln r (l ++ [b])).2 :: opens (r2 :: rs) (wn r (l ++ [b])) = (0, 0) :: zeros (r2 :: rs)
      rw [h1, h2, opens_over (r2 :: rs) (wn r l) b (by simp) z]
theorem lnF_shift (r : Sc) : ∀ (v : List Bool) (F : List (Sc × Bool)) (s : Sc), v.foldl (lnF r) (F, s) = (F ++ (v.foldl (lnF r) ([], s)).1, (v.foldl (lnF r) ([], s)).2)
  | [], F, s => by simp
  | b :: v, F, s => by
    show v.foldl (lnF r) (lnF r (F, s) b) = (F ++ (v.foldl (lnF r) (lnF r ([], s) b)).1, (v.foldl (lnF r) (lnF r ([], s) b)).2)
    by_cases hw : wins r (unit s b) b = true
    · have e1 : lnF r (F, s) b = (F ++ [(unit s b, b)], (0, 0)) := if_pos hw
      have e2 : lnF r ([], s) b = ([(unit s b, b)], (0, 0)) := if_pos hw
      rw [e1, e2, lnF_shift r v (F ++ [(unit s b, b)]), lnF_shift r v [(unit s b, b)]]
      simp
    · have e1 : lnF r (F, s) b = (F, unit s b) := if_neg hw
      have e2 : lnF r ([], s) b = ([], unit s b) := if_neg hw
      rw [e1, e2, lnF_shift r v F]
theorem reset : ∀ (rs : Rl) (u w : List Bool), opens rs u = zeros rs → up rs (u ++ w) = up rs u ++ up rs w ∧ opens rs (u ++ w) = opens rs w
  | [], u, w, _ => ⟨rfl, rfl⟩
  | r :: rs, u, w, h => by
    have h1 : (ln r u).2 = (0, 0) := List.head_eq_of_cons_eq h
    have h2 : opens rs (wn r u) = zeros rs := List.tail_eq_of_cons_eq h
    have e : ln r (u ++ w) = ((ln r u).1 ++ (ln r w).1, (ln r w).2) := by
      rw [ln_app]
      have : ln r u = ((ln r u).1, (0, 0)) := Prod.ext rfl h1
      rw [this, lnF_shift]
      rfl
    have e2 : wn r (u ++ w) = wn r u ++ wn r w := by
      unfold wn
      rw [e, List.map_append]
    obtain ⟨i1, i2⟩ := reset rs (wn r u) (wn r w) h2
    refine ⟨?_, ?_⟩
    · show up rs (wn r (u ++ w)) = up rs (wn r u) ++ up rs (wn r w)
      rw [e2, i1]
    · show (ln r (u ++ w)).2 :: opens rs (wn r (u ++ w)) = (ln r w).2 :: opens rs (wn r w)
      rw [e2, i2, e]
theorem opens_app : ∀ (rs us : Rl) (l : List Bool), opens (rs ++ us) l = opens rs l ++ opens us (up rs l)
  | [], us, l => rfl
  | r :: rs, us, l => by
    show (ln r l).2 :: opens (rs ++ us) (wn r l) = (ln r l).2 :: (opens rs (wn r l) ++ opens us (up rs (wn r l)))
    rw [opens_app rs us]
theorem step_app : ∀ (rs us : Rl) (s1 s2 : List Sc) (b : Bool), rs ≠ [] → us ≠ [] → rs.length = s1.length → step (rs ++ us) (s1 ++ s2) b = if (step rs s1 b).2 = true then (zeros rs ++ (step us s2 b).1, (step us s2 b).2) else ((step rs s1 b).1 ++ s2, false)
  | [], us, s1, s2, b, h, _, _ => absurd rfl h
  | r :: rs, us, [], s2, b, _, _, hl => by simp at hl
  | [r], us, [s], s2, b, _, hu, _ => by
    cases us with
    | nil => exact absurd rfl hu
    | cons q us =>
      by_cases hw : wins r (unit s b) b = true
      · have e1 : step ([r] ++ q :: us) ([s] ++ s2) b = ((0, 0) :: (step (q :: us) s2 b).1, (step (q :: us) s2 b).2) := if_pos hw
        have e2 : step [r] [s] b = ([unit s b], true) := if_pos hw
        rw [e1, e2, if_pos rfl]; rfl
      · have e1 : step ([r] ++ q :: us) ([s] ++ s2) b = (unit s b :: s2, false) := if_neg hw
        have e2 : step [r] [s] b = ([unit s b], false) := if_neg hw
        rw [e1, e2, if_neg Bool.false_ne_true]; rfl
  | [r], us, s :: t :: ss, s2, b, _, _, hl => by simp at hl
  | r :: r2 :: rs, us, s :: ss, s2, b, _, hu, hl => by
    have ih := step_app (r2 :: rs) us ss s2 b (by simp) hu (by simpa using hl)
    by_cases hw : wins r (unit s b) b = true
    · have e1 : step ((r :: r2 :: rs) ++ us) ((s :: ss) ++ s2) b = ((0, 0) :: (step ((r2 :: rs) ++ us) (ss ++ s2) b).1, (step ((r2 :: rs) ++ us) (ss ++ s2) b).2) := if_pos hw
      have e2 : step (r :: r2 :: rs) (s :: ss) b = ((0, 0) :: (step (r2 :: rs) ss b).1, (step (r2 :: rs) ss b).2) := if_pos hw
      rw [e1, e2, ih]
      by_cases hz : (step (r2 :: rs) ss b).2 = true
      · rw [if_pos hz, if_pos hz]; rfl
      · rw [if_neg hz, if_neg hz]; rfl
    · have e1 : step ((r :: r2 :: rs) ++ us) ((s :: ss) ++ s2) b = (unit s b :: (ss ++ s2), false) := if_neg hw
      have e2 : step (r :: r2 :: rs) (s :: ss) b = (unit s b :: ss, false) := if_neg hw
      rw [e1, e2, if_neg Bool.false_ne_true]; rfl
theorem opens_len : ∀ (rs : Rl) (l : List Bool), (opens rs l).length = rs.length
  | [], _ => rfl
  | r :: rs, l => congrArg (· + 1) (opens_len rs _)
theorem Opn.nil0 (rs : Rl) : Opn rs [] := fun p b q e => by
  have := congrArg List.length e
  simp at this
theorem Opn.snoc0 {rs : Rl} {l : List Bool} {b : Bool} (h : Opn rs l) (hb : (step rs (st rs l) b).2 = false) : Opn rs (l ++ [b]) := fun p c q e => by
  rcases List.eq_nil_or_concat q with hq | ⟨q', z, hq⟩
  · subst hq
    obtain ⟨e1, e2⟩ := List.append_inj' e rfl
    subst e1
    cases e2
    exact hb
  · subst hq
    have e' : l ++ [b] = (p ++ c :: q') ++ [z] := by rw [e]; simp
    obtain ⟨e1, e2⟩ := List.append_inj' e' rfl
    exact h p c q' e1
theorem app_ne {rs us : Rl} (h : rs ≠ []) : rs ++ us ≠ [] := fun e => h (List.append_eq_nil_iff.mp e).1
/-- the units of the lower races stand open in the upper -/
theorem opn_upper {rs us : Rl} (hr : rs ≠ []) (hu : us ≠ []) : ∀ l, Opn (rs ++ us) l → Opn us (up rs l) := by
  refine rev_ind (fun _ => by rw [up_nil]; exact Opn.nil0 us) fun l b ih h => ?_
  have hO := ih h.pre
  have hs := h l b [] rfl
  rw [(opn_opens (app_ne hr) l h.pre).1, opens_app, step_app rs us _ _ b hr hu (opens_len rs l).symm] at hs
  cases hz : (step rs (opens rs l) b).2 with
  | false => rw [((opens_step rs l b hr).1 hz).2]; exact hO
  | true =>
    rw [if_pos hz] at hs
    rw [(opens_step rs l b hr).2 hz]
    refine hO.snoc0 ?_
    rw [(opn_opens hu _ hO).1]
    exact hs
theorem fin_upper {rs us : Rl} (hr : rs ≠ []) (hu : us ≠ []) {p : List Bool} {b : Bool} (h : Opn (rs ++ us) p) (ho : (step (rs ++ us) (st (rs ++ us) p) b).2 = true) :
    (step rs (opens rs p) b).2 = true ∧ up rs (p ++ [b]) = up rs p ++ [b] ∧ Opn us (up rs p) ∧ (step us (st us (up rs p)) b).2 = true ∧ st (rs ++ us) (p ++ [b]) = zeros rs ++ st us (up rs p ++ [b]) := by
  have hO := opn_upper hr hu p h
  have e := step_app rs us (opens rs p) (opens us (up rs p)) b hr hu (opens_len rs p).symm
  rw [(opn_opens (app_ne hr) p h).1, opens_app] at ho
  have hz : (step rs (opens rs p) b).2 = true := by
    cases hz : (step rs (opens rs p) b).2 with
    | true => rfl
    | false => rw [e, if_neg (by rw [hz]; decide)] at ho; cases ho
  rw [e, if_pos hz] at ho
  refine ⟨hz, (opens_step rs p b hr).2 hz, hO, ?_, ?_⟩
  · rw [(opn_opens hu _ hO).1]; exact ho
  · rw [st_snoc, st_snoc, (opn_opens (app_ne hr) p h).1, opens_app, e, if_pos hz, (opn_opens hu _ hO).1]
end My

set_option Elab.async false
set_option linter.all false
set_option maxRecDepth 100000
namespace My
open PySem PySem.Spec PyProof.Rows L2 TT
def ch (b : Bool) : Nat := if b then 65 else 66
def abS (l : List Bool) : Str := ⟨(l.map ch).toArray⟩
def lt (b : Bool) : D := .str (abS [b])
def dP (a b : Int) : D := .tup [.int a, .int b]
def dpp (p : Sc) : D := dP p.1 p.2
def rul (rs : Rl) : D := .lst false (rs.map dpp)
def isRace (n m : Int) : Bool := decide (m ≤ n) && decide (1 ≤ m)
def Mid (rs : Rl) (l : List Bool) : Prop := rs ≠ [] ∧ rs.length ≤ 10 ∧ l.length ≤ 10 ^ 6
def sp_is_race : Spt := fun ds Q _ => ∃ n m : Int, ds = [dP n m] ∧ Q (.bl (isRace n m))
def sp_has_won : Spt := fun ds Q _ => ∃ (r : Sc) (a b : Int), ds = [dpp r, .int a, .int b] ∧ Q (.bl (won r a b))
def sp_check_rule : Spt := fun ds Q _ => ∃ rs : Rl, ds = [rul rs] ∧ Valid rs ∧ rs.length ≤ 10 ∧ Q .non
def sp_check_letters : Spt := fun ds Q _ => ∃ l, ds = [.str (abS l)] ∧ l.length ≤ 10 ^ 6 ∧ Q .non
def sp_start_scores : Spt := fun ds Q _ => ∃ rs : Rl, ds = [rul rs] ∧ rs.length ≤ 10 ∧ Q (.lst true ((zeros rs).map dpp))
def sp_add_unit : Spt := fun ds Q _ => ∃ (s : Sc) (b : Bool), ds = [dpp s, lt b] ∧ Q (dpp (unit s b))
def sp_wins_race : Spt := fun ds Q _ => ∃ (r s : Sc) (b : Bool), ds = [dpp r, dpp s, lt b] ∧ Q (.bl (wins r s b))
def sp_add_point : Spt := fun ds Q _ => ∃ (rs : Rl) (ss : List Sc) (b : Bool), ds = [rul rs, .lst false (ss.map dpp), lt b] ∧ rs.length = ss.length ∧ rs.length ≤ 10 ∧ Q (.tup [.lst false ((step rs ss b).1.map dpp), .bl (step rs ss b).2])
def sp_walk : Spt := fun ds Q _ => ∃ (rs : Rl) (l : List Bool), ds = [rul rs, .str (abS l)] ∧ Mid rs l ∧ ((Opn rs l ∧ Q (.tup [.non, .non, .lst false ((st rs l).map dpp)])) ∨
  ∃ p b, l = p ++ [b] ∧ Opn rs p ∧ (step rs (st rs p) b).2 = true ∧ Q (.tup [.int l.length, lt b, .lst false ((st rs l).map dpp)]))
def sp_play : Spt := fun ds Q _ => ∃ (rs : Rl) (l : List Bool), ds = [rul rs, .str (abS l)] ∧ Mid rs l ∧ Valid rs ∧ ((Opn rs l ∧ Q (.tup [.non, .lst false ((st rs l).map dpp)])) ∨
  ∃ p b, l = p ++ [b] ∧ Opn rs p ∧ (step rs (st rs p) b).2 = true ∧ Q (.tup [lt b, .lst false ((st rs l).map dpp)]))
def sp_check_level : Spt := fun ds Q _ => ∃ (rs : Rl) (k : Nat), ds = [rul rs, .int k] ∧ k < rs.length ∧ rs.length ≤ 10 ∧ Q .non
def sp_lines_in : Spt := fun ds Q _ => ∃ (r : Sc) (l : List Bool), ds = [dpp r, .str (abS l)] ∧ l.length ≤ 10 ^ 6 ∧ Q (.tup [.lst true ((lnS r l).map dpp), .str (abS (wn r l))])
def sp_lines_of : Spt := fun ds Q _ => ∃ (rs : Rl) (l : List Bool) (k : Nat) (r : Sc), ds = [rul rs, .str (abS l), .int k] ∧ Mid rs l ∧ Valid rs ∧ (Opn rs l ∨ Fin rs l) ∧ rs[k]? = some r ∧ Q (.lst true ((lnS r (up (rs.take k) l)).map dpp))
def Vld (rs : Rl) : Prop := Valid rs ∧ (∀ r ∈ rs, r.1 ≤ 12) ∧ rs.length ≤ 4
def sp_law_rule : Spt := fun ds Q _ => ds = [.bag, .int 4, .int 500] ∧ ∀ rs : Rl, Vld rs → Q (.lst true (rs.map dpp))
/-- a score that neither side has won -/
def OpS (r s : Sc) : Prop := (0 ≤ s.1 ∧ 0 ≤ s.2) ∧ won r s.1 s.2 = false ∧ won r s.2 s.1 = false
def wnD (w : Option Bool) : D := match w with
  | none => .str ""
  | some b => lt b
def sp_law_won : Spt := fun ds Q _ => ∃ (r s : Sc) (b : Bool), ds = [dpp r, .int (unit s b).1, .int (unit s b).2] ∧ (1 ≤ r.2 ∧ r.2 ≤ r.1) ∧ OpS r s ∧ Q (wnD (if wins r (unit s b) b then some b else none))
def OpL (rs : Rl) (ss : List Sc) : Prop := ∀ (i : Nat) (r s : Sc), rs[i]? = some r → ss[i]? = some s → OpS r s
def sp_law_played : Spt := fun ds Q _ => ∃ (rs : Rl) (ss : List Sc) (b : Bool), ds = [rul rs, lt b, .lst false (ss.map dpp)] ∧ rs.length = ss.length ∧ rs.length ≤ 10 ∧ Valid rs ∧ OpL rs ss ∧ Q (.lst true [wnD (if (step rs ss b).2 then some b else none), .lst false ((step rs ss b).1.map dpp)])
def sp_law_state : Spt := fun ds Q _ => ∃ (rs : Rl) (l : List Bool), ds = [rul rs, .str (abS l)] ∧ rs.length ≤ 10 ∧ l.length ≤ 10 ^ 6 ∧ Valid rs ∧ ((Opn rs l ∧ Q (.lst true [.str "", .lst false ((st rs l).map dpp), .int l.length])) ∨
  ∃ p b, l = p ++ [b] ∧ Opn rs p ∧ (step rs (st rs p) b).2 = true ∧ Q (.lst true [lt b, .lst false ((st rs l).map dpp), .int l.length]))
def sp_law_line : Spt := fun ds Q _ => ∃ (rs : Rl) (most : Nat), ds = [.bag, rul rs, .int (most : Nat)] ∧ rs.length ≤ 10 ∧ Valid rs ∧ most ≤ 400 ∧ ∀ l, Opn rs l → l.length ≤ most → Q (.str (abS l))
def sp_law_lined : Spt := fun ds Q _ => ∃ (rs : Rl) (l : List Bool) (k : Nat) (r : Sc), ds = [rul rs, .str (abS l), .int (k : Nat)] ∧ rs.length ≤ 10 ∧ l.length ≤ 10 ^ 5 ∧ Valid rs ∧ (Opn rs l ∨ Fin rs l) ∧ rs[k]? = some r ∧ Q (.lst true ((lnS r (up (rs.take k) l)).map dpp))
def sp_law_match : Spt := fun ds Q _ => ∃ rs : Rl, ds = [.bag, rul rs, .int 200] ∧ rs.length ≤ 10 ∧ Valid rs ∧ ∀ l, (Opn rs l ∨ Fin rs l) → l.length ≤ 3200 → Q (.str (abS l))
def sp_law_right : Spt := fun ds Q _ => ∃ (rs : Rl) (l : List Bool), ds = [rul rs, .str (abS l)] ∧ Vld rs ∧ (Opn rs l ∨ Fin rs l) ∧ l.length ≤ 3200 ∧ Q (.bl true)
end My

set_option Elab.async false
set_option linter.all false
set_option maxRecDepth 100000
set_option maxHeartbeats 1000000
namespace My
open PySem PySem.Spec PyProof.Rows L2 TT
/-! is_race: slots race 0; draws at most 0; level 1 -/
def rd_is_race : RS := (rSeq (rRet (rOf [true] (rvAnd (r2 (rL (rCons (rVar 0) rNil) gLen) (rK (.int 2)) gEq) (r3 (r2 (rVar 0) (rK (.int 0)) gIx) (r2 (rVar 0) (rK (.int 1)) gIx) (rK (.int 1)) gGe gGe))))
  rNext)

/-! has_won: slots race 0, own 1, other 2, n 3, m 4; draws at most 0; level 1 -/
def rd_has_won_r0 : RS := (rSeq (rRet (rOf [false, true, true, true, true] (rvAnd (r2 (rVar 1) (rVar 3) gGe) (r2 (r2 (rVar 1) (rVar 2) gSub) (rVar 4) gGe))))
  rNext)
def rd_has_won : RS := (rSeq (rAsg (rOf [true, false, false, false, false] (rVar 0)) (gTp 2 (gsCons (gNm 3) (gsCons (gNm 4) gsNil))))
  rd_has_won_r0)

/-! check_rule: slots rule 0, index 1, race 2; draws at most 0; level 2 -/
def rd_check_rule_b0 : RS := (rSeq (rIfS [false, false, true] (rtNot (rTru (rCall sp_is_race 1 (rCons (rVar 2) rNil)))) (rSeq rNever
  rNext) rNext)
  rNext)
def rd_check_rule : RS := (rSeq (rFor [true, false, false] 4611686018427387904 (riEnu (rCons (rVar 0) rNil)) (gTp 2 (gsCons (gNm 1) (gsCons (gNm 2) gsNil))) rd_check_rule_b0)
  rNext)

/-! check_letters: slots points 0, index 1, letter 2; draws at most 0; level 1 -/
def rd_check_letters_b0 : RS := (rSeq (rIfS [false, false, true] (rtC (r2 (rVar 2) (rTupE (rCons (rK (.str "A")) (rCons (rK (.str "B")) rNil))) (gIn true))) (rSeq rNever
  rNext) rNext)
  rNext)
def rd_check_letters : RS := (rSeq (rFor [true, false, false] 4611686018427387904 (riEnuT 0 (rVar 0)) (gTp 2 (gsCons (gNm 1) (gsCons (gNm 2) gsNil))) rd_check_letters_b0)
  rNext)

/-! start_scores: slots rule 0; draws at most 0; level 1 -/
def rd_start_scores : RS := (rSeq (rRet (rOf [true] (r2 (rLstE (rCons (rTupE (rCons (rK (.int 0)) (rCons (rK (.int 0)) rNil))) rNil)) (rL (rCons (rVar 0) rNil) gLen) gMulX)))
  rNext)

/-! add_unit: slots score 0, side 1, a 2, b 3; draws at most 0; level 1 -/
def rd_add_unit_r0 : RS := (rSeq (rRet (rOf [false, false, true, true] (rTupE (rCons (rVar 2) (rCons (r2 (rVar 3) (rK (.int 1)) gAdd) rNil)))))
  rNext)
def rd_add_unit_r1 : RS := (rSeq (rIfS [false, true, false, false] (rtC (r2 (rVar 1) (rK (.str "A")) gEq)) (rSeq (rRet (rOf [false, false, true, true] (rTupE (rCons (r2 (rVar 2) (rK (.int 1)) gAdd) (rCons (rVar 3) rNil)))))
  rNext) rNext)
  rd_add_unit_r0)
def rd_add_unit : RS := (rSeq (rAsg (rOf [true, false, false, false] (rVar 0)) (gTp 2 (gsCons (gNm 2) (gsCons (gNm 3) gsNil))))
  rd_add_unit_r1)

/-! wins_race: slots race 0, score 1, side 2, a 3, b 4; draws at most 0; level 2 -/
def rd_wins_race_r0 : RS := (rSeq (rRet (rOf [true, false, false, true, true] (rCall sp_has_won 3 (rCons (rVar 0) (rCons (rVar 4) (rCons (rVar 3) rNil))))))
  rNext)
def rd_wins_race_r1 : RS := (rSeq (rIfS [false, false, true, false, false] (rtC (r2 (rVar 2) (rK (.str "A")) gEq)) (rSeq (rRet (rOf [true, false, false, true, true] (rCall sp_has_won 3 (rCons (rVar 0) (rCons (rVar 3) (rCons (rVar 4) rNil))))))
  rNext) rNext)
  rd_wins_race_r0)
def rd_wins_race : RS := (rSeq (rAsg (rOf [false, true, false, false, false] (rVar 1)) (gTp 2 (gsCons (gNm 3) (gsCons (gNm 4) gsNil))))
  rd_wins_race_r1)

/-! add_point: slots rule 0, scores 1, side 2, found 3, level 4, race 5; draws at most 0; level 3 -/
def rd_add_point_r0 : RS := (rSeq (rIfS [true, false, false, false, true, false] (rtC (r2 (r2 (rVar 4) (rK (.int 1)) gAdd) (rL (rCons (rVar 0) rNil) gLen) gLt)) (rSeq (rPut 3 (ixV 4) (rOf [false, false, false, false, false, false] (rTupE (rCons (rK (.int 0)) (rCons (rK (.int 0)) rNil)))))
  rNext) rNext)
  rNext)
def rd_add_point_r1 : RS := (rSeq (rIfS [false, false, true, true, true, true] (rtNot (rTru (rCall sp_wins_race 3 (rCons (rVar 5) (rCons (r2 (rVar 3) (rVar 4) gIx) (rCons (rVar 2) rNil)))))) (rSeq (rRet (rOf [false, false, false, true, false, false] (rTupE (rCons (rVar 3) (rCons (rK (.bl false)) rNil)))))
  rNext) rNext)
  rd_add_point_r0)
def rd_add_point_b2 : RS := (rSeq (rPut 3 (ixV 4) (rOf [false, true, true, false, true, false] (rCall sp_add_unit 2 (rCons (r2 (rVar 1) (rVar 4) gIx) (rCons (rVar 2) rNil)))))
  rd_add_point_r1)
def rd_add_point_r3 : RS := (rSeq (rRet (rOf [false, false, false, true, false, false] (rTupE (rCons (rVar 3) (rCons (rK (.bl true)) rNil)))))
  rNext)
def rd_add_point_r4 : RS := (rSeq (rFor [true, false, false, false, false, false] 4611686018427387904 (riEnu (rCons (rVar 0) rNil)) (gTp 2 (gsCons (gNm 4) (gsCons (gNm 5) gsNil))) rd_add_point_b2)
  rd_add_point_r3)
def rd_add_point : RS := (rSeq (rAsg (rOf [false, true, false, false, false, false] (rL (rCons (rVar 1) rNil) gList)) (gNm 3))
  rd_add_point_r4)

/-! walk: slots rule 0, points 1, scores 2, number 3, side 4, over 5; draws at most 0; level 4 -/
def rd_walk_r0 : RS := (rSeq (rIfS [false, false, false, false, false, true] (rTru (rVar 5)) (rSeq (rRet (rOf [false, false, true, true, true, false] (rTupE (rCons (rVar 3) (rCons (rVar 4) (rCons (rVar 2) rNil))))))
  rNext) rNext)
  rNext)
def rd_walk_b1 : RS := (rSeq (rAsg (rOf [true, false, true, false, true, false] (rCall sp_add_point 3 (rCons (rVar 0) (rCons (rVar 2) (rCons (rVar 4) rNil))))) (gTp 2 (gsCons (gNm 2) (gsCons (gNm 5) gsNil))))
  rd_walk_r0)
def rd_walk_r2 : RS := (rSeq (rRet (rOf [false, false, true, false, false, false] (rTupE (rCons (rK .non) (rCons (rK .non) (rCons (rVar 2) rNil))))))
  rNext)
def rd_walk_r3 : RS := (rSeq (rFor [false, true, false, false, false, false] 4611686018427387904 (riEnuT 1 (rVar 1)) (gTp 2 (gsCons (gNm 3) (gsCons (gNm 4) gsNil))) rd_walk_b1)
  rd_walk_r2)
def rd_walk : RS := (rSeq (rAsg (rOf [true, false, false, false, false, false] (rCall sp_start_scores 1 (rCons (rVar 0) rNil))) (gNm 2))
  rd_walk_r3)

/-! play: slots rule 0, points 1, number 2, winner 3, scores 4; draws at most 0; level 5 -/
def rd_play_r0 : RS := (rSeq (rRet (rOf [false, false, false, true, true] (rTupE (rCons (rVar 3) (rCons (rVar 4) rNil)))))
  rNext)
def rd_play_r1 : RS := (rSeq (rIfS [false, true, true, false, false] (rtAnd (rtC (r2 (rVar 2) (rK .non) gNotN)) (rtC (r2 (rVar 2) (rL (rCons (rVar 1) rNil) gLen) gLt))) (rSeq rNever
  rNext) rNext)
  rd_play_r0)
def rd_play_r2 : RS := (rSeq (rAsg (rOf [true, true, false, false, false] (rCall sp_walk 2 (rCons (rVar 0) (rCons (rVar 1) rNil)))) (gTp 3 (gsCons (gNm 2) (gsCons (gNm 3) (gsCons (gNm 4) gsNil)))))
  rd_play_r1)
def rd_play_r3 : RS := (rSeq (rDrop (rOf [false, true, false, false, false] (rCall sp_check_letters 1 (rCons (rVar 1) rNil))))
  rd_play_r2)
def rd_play : RS := (rSeq (rDrop (rOf [true, false, false, false, false] (rCall sp_check_rule 1 (rCons (rVar 0) rNil))))
  rd_play_r3)

/-! check_level: slots rule 0, level 1; draws at most 0; level 1 -/
def rd_check_level : RS := (rSeq (rIfS [true, true] (rtNot (rtC (r3 (rK (.int 0)) (rVar 1) (rL (rCons (rVar 0) rNil) gLen) gLe gLt))) (rSeq rNever
  rNext) rNext)
  rNext)

/-! lines_in: slots race 0, units 1, found 2, winners 3, score 4, side 5; draws at most 0; level 3 -/
def rd_lines_in_r0 : RS := (rSeq (rAsg (rOf [false, false, false, false, false, false] (rTupE (rCons (rK (.int 0)) (rCons (rK (.int 0)) rNil)))) (gNm 4))
  rNext)
def rd_lines_in_r1 : RS := (rSeq (rAugX 3 (rOf [false, false, false, false, false, true] (rVar 5)))
  rd_lines_in_r0)
def rd_lines_in_r2 : RS := (rSeq (rIfS [true, false, false, false, true, true] (rTru (rCall sp_wins_race 3 (rCons (rVar 0) (rCons (rVar 4) (rCons (rVar 5) rNil))))) (rSeq (rAppS 2 (rOf [false, false, false, false, true, false] (rVar 4)))
  rd_lines_in_r1) rNext)
  rNext)
def rd_lines_in_b3 : RS := (rSeq (rAsg (rOf [false, false, false, false, true, true] (rCall sp_add_unit 2 (rCons (rVar 4) (rCons (rVar 5) rNil)))) (gNm 4))
  rd_lines_in_r2)
def rd_lines_in_r4 : RS := (rSeq (rRet (rMv2 2 3))
  rNext)
def rd_lines_in_r5 : RS := (rSeq (rIfS [false, false, false, false, true, false] (rtC (r2 (rVar 4) (rTupE (rCons (rK (.int 0)) (rCons (rK (.int 0)) rNil))) gNe)) (rSeq (rAppS 2 (rOf [false, false, false, false, true, false] (rVar 4)))
  rNext) rNext)
  rd_lines_in_r4)
def rd_lines_in_r6 : RS := (rSeq (rFor [false, true, false, false, false, false] 4611686018427387904 (riAny (rVar 1)) (gNm 5) rd_lines_in_b3)
  rd_lines_in_r5)
def rd_lines_in_r7 : RS := (rSeq (rAsg (rOf [false, false, false, false, false, false] (rTupE (rCons (rK (.int 0)) (rCons (rK (.int 0)) rNil)))) (gNm 4))
  rd_lines_in_r6)
def rd_lines_in_r8 : RS := (rSeq (rAsg (rOf [false, false, false, false, false, false] (rK (.str ""))) (gNm 3))
  rd_lines_in_r7)
def rd_lines_in : RS := (rSeq (rAsg (rOf [false, false, false, false, false, false] (rLstE rNil)) (gNm 2))
  rd_lines_in_r8)

/-! lines_of: slots rule 0, points 1, level 2, units 3, race 4, found 5, _ 6; draws at most 0; level 6 -/
def rd_lines_of_b0 : RS := (rSeq (rAsg (rOf [false, false, false, true, true, false, false] (rCall sp_lines_in 2 (rCons (rVar 4) (rCons (rVar 3) rNil)))) (gTp 2 (gsCons (gNm 6) (gsCons (gNm 3) gsNil))))
  rNext)
def rd_lines_of_r1 : RS := (rSeq (rRet (rMv 5))
  rNext)
def rd_lines_of_r2 : RS := (rSeq (rAsg (rOf [true, false, true, true, false, false, false] (rCall sp_lines_in 2 (rCons (r2 (rVar 0) (rVar 2) gIx) (rCons (rVar 3) rNil)))) (gTp 2 (gsCons (gNm 5) (gsCons (gNm 6) gsNil))))
  rd_lines_of_r1)
def rd_lines_of_r3 : RS := (rSeq (rFor [true, false, true, false, false, false, false] 4611686018427387904 (riAny (r2 (rVar 0) (rVar 2) gSlHiZ)) (gNm 4) rd_lines_of_b0)
  rd_lines_of_r2)
def rd_lines_of_r4 : RS := (rSeq (rAsg (rOf [false, true, false, false, false, false, false] (rVar 1)) (gNm 3))
  rd_lines_of_r3)
def rd_lines_of_r5 : RS := (rSeq (rDrop (rOf [true, false, true, false, false, false, false] (rCall sp_check_level 2 (rCons (rVar 0) (rCons (rVar 2) rNil)))))
  rd_lines_of_r4)
def rd_lines_of : RS := (rSeq (rDrop (rOf [true, true, false, false, false, false, false] (rCall sp_play 2 (rCons (rVar 0) (rCons (rVar 1) rNil)))))
  rd_lines_of_r5)

/-! _law_rule: slots pool 0, levels 1, product 2, found 3, left 4, turn 5, units 6, lead 7; draws at most 13; level 2 -/
def rd_law_rule_r0 : RS := (rSeq (rAsg (rOf [false, false, false, false, true, false, true, false] (r2 (rVar 4) (rVar 6) gDiv)) (gNm 4))
  rNext)
def rd_law_rule_r1 : RS := (rSeq (rAppS 3 (rOf [false, false, false, false, false, false, true, true] (rTupE (rCons (rVar 6) (rCons (rVar 7) rNil)))))
  rd_law_rule_r0)
def rd_law_rule_r2 : RS := (rSeq (rAsg (rOf [true, false, false, false, false, false, true, false] (r2 (rLstE (rCons (rK (.int 1)) (rCons (rL (rCons (rVar 6) (rCons (rK (.int 2)) rNil)) gMin2) (rCons (rVar 6) (rCons (r2 (rK (.int 1)) (rCall spDraw 2 (rCons (rVar 0) (rCons (rVar 6) rNil))) gAdd) rNil))))) (rCall spDraw 2 (rCons (rVar 0) (rCons (rK (.int 4)) rNil))) gIx)) (gNm 7))
  rd_law_rule_r1)
def rd_law_rule_b3 : RS := (rSeq (rAsg (rOf [true, false, false, false, true, false, false, false] (r2 (rK (.int 1)) (rCall spDraw 2 (rCons (rVar 0) (rCons (rL (rCons (rK (.int 12)) (rCons (rVar 4) rNil)) gMin2) rNil))) gAdd)) (gNm 6))
  rd_law_rule_r2)
def rd_law_rule_r4 : RS := (rSeq (rRet (rMv 3))
  rNext)
def rd_law_rule_r5 : RS := (rSeq (rForR [true, true, false, false, false, false, false, false] 4 (riR1 (rCons (rCall spDraw 2 (rCons (rVar 0) (rCons (r2 (rVar 1) (rK (.int 1)) gAdd) rNil))) rNil)) (gNm 5) rd_law_rule_b3)
  rd_law_rule_r4)
def rd_law_rule : RS := (rSeq (rPar 3 4 [false, false, true, false, false, false, false, false] (rCons (rLstE rNil) (rCons (rVar 2) rNil)))
  rd_law_rule_r5)

/-! _law_won: slots race 0, one 1, two 2; draws at most 0; level 1 -/
def rd_law_won_r0 : RS := (rSeq (rRet (rOf [false, true, true] (rIte (rtC (r2 (rVar 1) (rVar 2) gGt)) (rK (.str "A")) (rK (.str "B")))))
  rNext)
def rd_law_won : RS := (rSeq (rIfS [true, true, true] (rtOr (rtC (r2 (rL (rCons (rVar 1) (rCons (rVar 2) rNil)) gMax2) (r2 (rVar 0) (rK (.int 0)) gIx) gLt)) (rtC (r2 (rL (rCons (r2 (rVar 1) (rVar 2) gSub) (rCons (r2 (rVar 2) (rVar 1) gSub) rNil)) gMax2) (r2 (rVar 0) (rK (.int 1)) gIx) gLt))) (rSeq (rRet (rOf [false, false, false] (rK (.str ""))))
  rNext) rNext)
  rd_law_won_r0)

/-! _law_played: slots laws_here 0, who 1, standing 2, later 3, at 4, race 5, one 6, two 7; draws at most 0; level 2 -/
def rd_law_played_r0 : RS := (rSeq (rIfS [true, false, false, false, true, false, false, false] (rtC (r2 (r2 (rVar 4) (rK (.int 1)) gAdd) (rL (rCons (rVar 0) rNil) gLen) gLt)) (rSeq (rPut 3 (ixV 4) (rOf [false, false, false, false, false, false, false, false] (rTupE (rCons (rK (.int 0)) (rCons (rK (.int 0)) rNil)))))
  rNext) rNext)
  rNext)
def rd_law_played_r1 : RS := (rSeq (rIfS [false, false, false, true, true, true, false, false] (rtC (r2 (rCall sp_law_won 3 (rCons (rVar 5) (rCons (r2 (r2 (rVar 3) (rVar 4) gIx) (rK (.int 0)) gIx) (rCons (r2 (r2 (rVar 3) (rVar 4) gIx) (rK (.int 1)) gIx) rNil)))) (rK (.str "")) gEq)) (rSeq (rRet (rOf [false, false, false, true, false, false, false, false] (rLstE (rCons (rK (.str "")) (rCons (rVar 3) rNil)))))
  rNext) rNext)
  rd_law_played_r0)
def rd_law_played_r2 : RS := (rSeq (rPut 3 (ixV 4) (rOf [false, true, false, false, false, false, true, true] (rTupE (rCons (r2 (rVar 6) (rL (rCons (r2 (rVar 1) (rK (.str "A")) gEq) rNil) gIntS) gAdd) (rCons (r2 (rVar 7) (rL (rCons (r2 (rVar 1) (rK (.str "B")) gEq) rNil) gIntS) gAdd) rNil)))))
  rd_law_played_r1)
def rd_law_played_b3 : RS := (rSeq (rAsg (rOf [false, false, false, true, true, false, false, false] (r2 (rVar 3) (rVar 4) gIx)) (gTp 2 (gsCons (gNm 6) (gsCons (gNm 7) gsNil))))
  rd_law_played_r2)
def rd_law_played_r4 : RS := (rSeq (rRet (rOf [false, true, false, true, false, false, false, false] (rLstE (rCons (rVar 1) (rCons (rVar 3) rNil)))))
  rNext)
def rd_law_played_r5 : RS := (rSeq (rFor [true, false, false, false, false, false, false, false] 4611686018427387904 (riEnu (rCons (rVar 0) rNil)) (gTp 2 (gsCons (gNm 4) (gsCons (gNm 5) gsNil))) rd_law_played_b3)
  rd_law_played_r4)
def rd_law_played : RS := (rSeq (rAsg (rOf [false, false, true, false, false, false, false, false] (rL (rCons (rVar 2) rNil) gList)) (gNm 3))
  rd_law_played_r5)

/-! _law_state: slots laws_here 0, line_here 1, winner 2, standing 3, at 4, who 5; draws at most 0; level 3 -/
def rd_law_state_r0 : RS := (rSeq (rIfS [false, false, true, false, false, false] (rtC (r2 (rVar 2) (rK (.str "")) gNe)) (rSeq (rRet (rOf [false, false, true, true, true, false] (rLstE (rCons (rVar 2) (rCons (rVar 3) (rCons (r2 (rVar 4) (rK (.int 1)) gAdd) rNil))))))
  rNext) rNext)
  rNext)
def rd_law_state_b1 : RS := (rSeq (rAsg (rOf [true, false, false, true, false, true] (rCall sp_law_played 3 (rCons (rVar 0) (rCons (rVar 5) (rCons (rVar 3) rNil))))) (gTpL 2 (gsCons (gNm 2) (gsCons (gNm 3) gsNil))))
  rd_law_state_r0)
def rd_law_state_r2 : RS := (rSeq (rRet (rOf [false, true, true, true, false, false] (rLstE (rCons (rVar 2) (rCons (rVar 3) (rCons (rL (rCons (rVar 1) rNil) gLen) rNil))))))
  rNext)
def rd_law_state_r3 : RS := (rSeq (rFor [false, true, false, false, false, false] 4611686018427387904 (riEnuT 0 (rVar 1)) (gTp 2 (gsCons (gNm 4) (gsCons (gNm 5) gsNil))) rd_law_state_b1)
  rd_law_state_r2)
def rd_law_state : RS := (rSeq (rPar 2 3 [true, false, false, false, false, false] (rCons (rK (.str "")) (rCons (r2 (rLstE (rCons (rTupE (rCons (rK (.int 0)) (rCons (rK (.int 0)) rNil))) rNil)) (rL (rCons (rVar 0) rNil) gLen) gMulX) rNil)))
  rd_law_state_r3)

/-! _law_line: slots pool 0, laws_here 1, most 2, found 3, standing 4, way 5, turn 6, who 7, winner 8, later 9; draws at most 1202; level 3 -/
def rd_law_line_r0 : RS := (rSeq (rIfS [false, false, false, false, false, false, false, false, true, false] (rtC (r2 (rVar 8) (rK (.str "")) gNe)) (rSeq (rRet (rMv 3))
  rNext) rNext)
  rNext)
def rd_law_line_r1 : RS := (rSeq (rAsg (rOf [false, true, false, false, true, false, false, true, false, false] (rCall sp_law_played 3 (rCons (rVar 1) (rCons (rVar 7) (rCons (rVar 4) rNil))))) (gTpL 2 (gsCons (gNm 8) (gsCons (gNm 9) gsNil))))
  rd_law_line_r0)
def rd_law_line_r2 : RS := (rSeq (rPar 3 4 [false, false, false, true, false, false, false, true, false, true] (rCons (r2 (rVar 3) (rVar 7) gAdd) (rCons (rVar 9) rNil)))
  rNext)
def rd_law_line_r3 : RS := (rSeq (rIfS [false, false, false, false, false, false, false, false, true, false] (rtC (r2 (rVar 8) (rK (.str "")) gNe)) (rSeq (rAsg (rOf [false, false, false, false, false, false, false, true, false, false] (rMenu "A" "B" "B" "A" (rVar 7))) (gNm 7))
  rd_law_line_r1) rNext)
  rd_law_line_r2)
def rd_law_line_r4 : RS := (rSeq (rAsg (rOf [false, true, false, false, true, false, false, true, false, false] (rCall sp_law_played 3 (rCons (rVar 1) (rCons (rVar 7) (rCons (rVar 4) rNil))))) (gTpL 2 (gsCons (gNm 8) (gsCons (gNm 9) gsNil))))
  rd_law_line_r3)
def rd_law_line_b5 : RS := (rSeq (rAsg (rOf [true, false, false, false, false, true, true, false, false, false] (r2 (rLstE (rCons (r2 (rK (.str "AB")) (rCall spDraw 2 (rCons (rVar 0) (rCons (rK (.int 2)) rNil))) gIx) (rCons (r2 (rK (.str "AB")) (r2 (rVar 6) (rK (.int 2)) gMod) gIx) (rCons (r2 (rK (.str "AABA")) (rCall spDraw 2 (rCons (rVar 0) (rCons (rK (.int 4)) rNil))) gIx) (rCons (r2 (rK (.str "ABBB")) (rCall spDraw 2 (rCons (rVar 0) (rCons (rK (.int 4)) rNil))) gIx) rNil))))) (rVar 5) gIx)) (gNm 7))
  rd_law_line_r4)
def rd_law_line_r6 : RS := (rSeq (rRet (rMv 3))
  rNext)
def rd_law_line_r7 : RS := (rSeq (rForR [true, false, true, false, false, false, false, false, false, false] 400 (riR1 (rCons (rCall spDraw 2 (rCons (rVar 0) (rCons (r2 (rVar 2) (rK (.int 1)) gAdd) rNil))) rNil)) (gNm 6) rd_law_line_b5)
  rd_law_line_r6)
def rd_law_line : RS := (rSeq (rPar3 3 4 5 [true, true, false, false, false, false, false, false, false, false] (rCons (rK (.str "")) (rCons (r2 (rLstE (rCons (rTupE (rCons (rK (.int 0)) (rCons (rK (.int 0)) rNil))) rNil)) (rL (rCons (rVar 1) rNil) gLen) gMulX) (rCons (rCall spDraw 2 (rCons (rVar 0) (rCons (rK (.int 4)) rNil))) rNil))))
  rd_law_line_r7)

/-! _law_lined: slots laws_here 0, line_here 1, height 2, found 3, standing 4, open_here 5, who 6, ended 7, race 8, pair 9, one 10, two 11; draws at most 0; level 3 -/
def rd_law_lined_r0 : RS := (rSeq (rIfS [false, false, false, false, false, false, false, true, true, false, true, true] (rtAnd (rtC (r2 (rVar 7) (rK (.int 0)) gGe)) (rtC (r2 (rCall sp_law_won 3 (rCons (rVar 8) (rCons (rVar 10) (rCons (rVar 11) rNil)))) (rK (.str "")) gNe))) (rSeq (rAsg (rOf [false, false, false, false, false, false, false, true, false, false, false, false] (r2 (rVar 7) (rK (.int 1)) gAdd)) (gNm 7))
  rNext) (rSeq (rAsg (rOf [false, false, false, false, false, false, false, false, false, false, false, false] (r1 (rK (.int 1)) gNeg)) (gNm 7))
  rNext))
  rNext)
def rd_law_lined_b1 : RS := (rSeq (rPar 10 11 [false, false, false, false, false, false, true, false, false, true, false, false] (rCons (r2 (r2 (rVar 9) (rK (.int 0)) gIx) (rL (rCons (r2 (rVar 6) (rK (.str "A")) gEq) rNil) gIntS) gAdd) (rCons (r2 (r2 (rVar 9) (rK (.int 1)) gIx) (rL (rCons (r2 (rVar 6) (rK (.str "B")) gEq) rNil) gIntS) gAdd) rNil)))
  rd_law_lined_r0)
def rd_law_lined_r2 : RS := (rSeq (rAsg (rOf [false, false, false, false, false, false, false, false, false, false, false, false] (rTupE (rCons (rK (.int 0)) (rCons (rK (.int 0)) rNil)))) (gNm 5))
  rNext)
def rd_law_lined_r3 : RS := (rSeq (rIfS [true, false, true, false, false, true, false, false, false, false, false, false] (rtC (r2 (rCall sp_law_won 3 (rCons (r2 (rVar 0) (rVar 2) gIx) (rCons (r2 (rVar 5) (rK (.int 0)) gIx) (rCons (r2 (rVar 5) (rK (.int 1)) gIx) rNil)))) (rK (.str "")) gNe)) (rSeq (rAppS 3 (rOf [false, false, false, false, false, true, false, false, false, false, false, false] (rVar 5)))
  rd_law_lined_r2) rNext)
  rNext)
def rd_law_lined_r4 : RS := (rSeq (rAsg (rOf [false, false, false, false, false, false, true, false, false, false, true, true] (rTupE (rCons (r2 (rVar 10) (rL (rCons (r2 (rVar 6) (rK (.str "A")) gEq) rNil) gIntS) gAdd) (rCons (r2 (rVar 11) (rL (rCons (r2 (rVar 6) (rK (.str "B")) gEq) rNil) gIntS) gAdd) rNil)))) (gNm 5))
  rd_law_lined_r3)
def rd_law_lined_r5 : RS := (rSeq (rAsg (rOf [true, false, false, false, true, false, true, false, false, false, false, false] (r2 (rCall sp_law_played 3 (rCons (rVar 0) (rCons (rVar 6) (rCons (rVar 4) rNil)))) (rK (.int 1)) gIx)) (gNm 4))
  rNext)
def rd_law_lined_r6 : RS := (rSeq (rIfS [false, false, true, false, false, false, false, true, false, false, false, false] (rtC (r2 (rVar 7) (rVar 2) gEq)) (rSeq (rAsg (rOf [false, false, true, false, true, false, false, false, false, false, false, false] (r2 (rVar 4) (rVar 2) gIx)) (gTp 2 (gsCons (gNm 10) (gsCons (gNm 11) gsNil))))
  rd_law_lined_r4) rNext)
  rd_law_lined_r5)
def rd_law_lined_r7 : RS := (rSeq (rFor [true, false, true, false, true, false, false, false, false, false, false, false] 4611686018427387904 (riZip (rCons (r2 (rVar 0) (rVar 2) gSlHiZ) (rCons (rVar 4) rNil))) (gTp 2 (gsCons (gNm 8) (gsCons (gNm 9) gsNil))) rd_law_lined_b1)
  rd_law_lined_r6)
def rd_law_lined_b8 : RS := (rSeq (rAsg (rOf [false, false, false, false, false, false, false, false, false, false, false, false] (rK (.int 0))) (gNm 7))
  rd_law_lined_r7)
def rd_law_lined_r9 : RS := (rSeq (rRet (rOf [false, false, false, true, false, true, false, false, false, false, false, false] (r2 (rVar 3) (r2 (rLstE (rCons (rVar 5) rNil)) (rL (rCons (r2 (rVar 5) (rTupE (rCons (rK (.int 0)) (rCons (rK (.int 0)) rNil))) gNe) rNil) gIntS) gMulX) gAdd)))
  rNext)
def rd_law_lined_r10 : RS := (rSeq (rFor [false, true, false, false, false, false, false, false, false, false, false, false] 4611686018427387904 (riAny (rVar 1)) (gNm 6) rd_law_lined_b8)
  rd_law_lined_r9)
def rd_law_lined_r11 : RS := (rSeq (rAsg (rOf [false, false, false, false, false, false, false, false, false, false, false, false] (rTupE (rCons (rK (.int 0)) (rCons (rK (.int 0)) rNil)))) (gNm 5))
  rd_law_lined_r10)
def rd_law_lined : RS := (rSeq (rPar 3 4 [true, false, false, false, false, false, false, false, false, false, false, false] (rCons (rLstE rNil) (rCons (r2 (rLstE (rCons (rTupE (rCons (rK (.int 0)) (rCons (rK (.int 0)) rNil))) rNil)) (rL (rCons (rVar 0) rNil) gLen) gMulX) rNil)))
  rd_law_lined_r11)

/-! _law_match: slots pool 0, laws_here 1, most 2, line_here 3, way 4, winner 5, standing 6, who 7, turn 8; draws at most 4204; level 4 -/
def rd_law_match_r0 : RS := (rSeq (rIfS [false, false, false, false, false, true, false, false, false] (rtC (r2 (rVar 5) (rK (.str "")) gNe)) (rSeq (rRet (rMv 3))
  rNext) rNext)
  rNext)
def rd_law_match_r1 : RS := (rSeq (rAsg (rOf [false, false, false, true, false, false, false, true, false] (r2 (rVar 3) (rVar 7) gAdd)) (gNm 3))
  rd_law_match_r0)
def rd_law_match_r2 : RS := (rSeq (rAsg (rOf [false, true, false, false, false, false, true, true, false] (rCall sp_law_played 3 (rCons (rVar 1) (rCons (rVar 7) (rCons (rVar 6) rNil))))) (gTpL 2 (gsCons (gNm 5) (gsCons (gNm 6) gsNil))))
  rd_law_match_r1)
def rd_law_match_r3 : RS := (rSeq (rIfS [false, false, false, false, true, false, false, false, true] (rtAnd (rtC (r2 (rVar 4) (rK (.int 2)) gEq)) (rtC (r2 (rVar 8) (rK (.int 20)) gLt))) (rSeq (rAsg (rOf [false, false, false, false, false, false, false, false, true] (r2 (rK (.str "AB")) (r2 (rVar 8) (rK (.int 2)) gMod) gIx)) (gNm 7))
  rNext) rNext)
  rd_law_match_r2)
def rd_law_match_b4 : RS := (rSeq (rIfS [false, false, false, false, true, false, false, false, true] (rtAnd (rtC (r2 (rVar 4) (rK (.int 1)) gEq)) (rtC (r2 (rVar 8) (rK (.int 40)) gLt))) (rSeq (rAsg (rOf [true, false, false, false, false, false, false, false, false] (r2 (rK (.str "AB")) (rCall spDraw 2 (rCons (rVar 0) (rCons (rK (.int 2)) rNil))) gIx)) (gNm 7))
  rNext) rNext)
  rd_law_match_r3)
def rd_law_match_r5 : RS := (rSeq (rRet (rMv 3))
  rNext)
def rd_law_match_r6 : RS := (rSeq (rForR [false, false, false, false, false, false, false, false, false] 3000 (riR1 (rCons (rK (.int 3000)) rNil)) (gNm 8) rd_law_match_b4)
  rd_law_match_r5)
def rd_law_match_r7 : RS := (rSeq (rPar 6 7 [true, true, false, true, false, false, false, false, false] (rCons (r2 (rCall sp_law_state 2 (rCons (rVar 1) (rCons (rVar 3) rNil))) (rK (.int 1)) gIx) (rCons (r2 (rK (.str "AB")) (rCall spDraw 2 (rCons (rVar 0) (rCons (rK (.int 2)) rNil))) gIx) rNil)))
  rd_law_match_r6)
def rd_law_match : RS := (rSeq (rPar3 3 4 5 [true, true, true, false, false, false, false, false, false] (rCons (rCall sp_law_line 3 (rCons (rVar 0) (rCons (rVar 1) (rCons (rVar 2) rNil)))) (rCons (rCall spDraw 2 (rCons (rVar 0) (rCons (rK (.int 3)) rNil))) (rCons (rK (.str "")) rNil))))
  rd_law_match_r7)

/-! _law_right: slots laws_here 0, line_here 1, kept 2, height 3, due 4, told 5; draws at most 0; level 7 -/
def rd_law_right_r0 : RS := (rSeq (rIfS [true, true, false, true, true, false] (rtC (r2 (rCall sp_lines_of 3 (rCons (rVar 0) (rCons (rVar 1) (rCons (rVar 3) rNil)))) (rVar 4) gNe)) (rSeq (rRet (rOf [false, false, false, false, false, false] (rK (.bl false))))
  rNext) rNext)
  rNext)
def rd_law_right_r1 : RS := (rSeq (rAppS 5 (rOf [false, false, false, false, false, false] (rTupE (rCons (rK (.int 9)) (rCons (rK (.int 9)) rNil)))))
  rd_law_right_r0)
def rd_law_right_r2 : RS := (rSeq (rIfS [true, true, false, true, true, true] (rtC (r2 (rL (rCons (rLstE (rCons (rVar 5) (rCons (rCallK sp_lines_of 3 [2, 1, 0] 3 (rCons (rVar 3) (rCons (rVar 1) (rCons (rVar 0) rNil)))) rNil))) rNil) gReprG) (rL (rCons (rLstE (rCons (rVar 4) (rCons (rVar 4) rNil))) rNil) gReprG) gNe)) (rSeq (rRet (rOf [false, false, false, false, false, false] (rK (.bl false))))
  rNext) rNext)
  rd_law_right_r1)
def rd_law_right_r3 : RS := (rSeq (rAsg (rOf [true, true, false, true, false, false] (rCall sp_lines_of 3 (rCons (rVar 0) (rCons (rVar 1) (rCons (rVar 3) rNil))))) (gNm 5))
  rd_law_right_r2)
def rd_law_right_b4 : RS := (rSeq (rAsg (rOf [true, true, false, true, false, false] (rCall sp_law_lined 3 (rCons (rVar 0) (rCons (rVar 1) (rCons (rVar 3) rNil))))) (gNm 4))
  rd_law_right_r3)
def rd_law_right_r5 : RS := (rSeq (rRet (rOf [true, true, true, false, false, false] (r2 (rL (rCons (rLstE (rCons (rVar 0) (rCons (rVar 1) rNil))) rNil) gReprG) (rVar 2) gEq)))
  rNext)
def rd_law_right_r6 : RS := (rSeq (rForR [true, false, false, false, false, false] 4611686018427387904 (riR1 (rCons (rL (rCons (rVar 0) rNil) gLen) rNil)) (gNm 3) rd_law_right_b4)
  rd_law_right_r5)
def rd_law_right : RS := (rSeq (rAsg (rOf [true, true, false, false, false, false] (rL (rCons (rLstE (rCons (rVar 0) (rCons (rVar 1) rNil))) rNil) gReprG)) (gNm 2))
  rd_law_right_r6)

/-! law: slots script 0, at 1, pool 2, turn 3, laws_here 4, some 5, line_here 6; draws at most 162570; level 8 -/
def rd_law_r0 : RS := (rSeq (rIfS [false, false, false, false, true, true, false] (rtC (r2 (rLc [false, false, false, false, false, false, true] 4611686018427387904 (riAny (rVar 5)) (gNm 6) (rtNot (rTru (rCall sp_law_right 2 (rCons (rVar 4) (rCons (rVar 6) rNil))))) (rVar 6)) (rLstE rNil) gNe)) (rSeq (rRet (rOf [false, false, false, false, false, false, false] (rK (.bl false))))
  rNext) rNext)
  rNext)
def rd_law_r1 : RS := (rSeq (rAsg (rOf [false, false, true, true, true, false, false] (rLstE (rCons (rCall sp_law_line 3 (rCons (rVar 2) (rCons (rVar 4) (rCons (r2 (rLstE (rCons (rK (.int 30)) (rCons (rK (.int 400)) rNil))) (r2 (rVar 3) (rK (.int 2)) gMod) gIx) rNil)))) (rCons (rCall sp_law_match 3 (rCons (rVar 2) (rCons (rVar 4) (rCons (rK (.int 200)) rNil)))) rNil)))) (gNm 5))
  rd_law_r0)
def rd_law_b2 : RS := (rSeq (rAsg (rOf [false, false, true, false, false, false, false] (rCall sp_law_rule 3 (rCons (rVar 2) (rCons (rK (.int 4)) (rCons (rK (.int 500)) rNil))))) (gNm 4))
  rd_law_r1)
def rd_law_b3 : RS := (rPool 2 0 1 (rSeq (rForR [false, false, false, false, false, false, false] 5 (riR1 (rCons (rK (.int 5)) rNil)) (gNm 3) rd_law_b2)
  rNext))
def rd_law_r4 : RS := (rSeq (rRet (rOf [false, false, false, false, false, false, false] (r2 (rCall sp_lines_of 3 (rCons (rLstE (rCons (rTupE (rCons (rK (.int 2)) (rCons (rK (.int 1)) rNil))) (rCons (rTupE (rCons (rK (.int 3)) (rCons (rK (.int 1)) rNil))) rNil))) (rCons (rK (.str "AABABA")) (rCons (rK (.int 0)) rNil)))) (rLstE (rCons (rTupE (rCons (rK (.int 2)) (rCons (rK (.int 0)) rNil))) (rCons (rTupE (rCons (rK (.int 1)) (rCons (rK (.int 2)) rNil))) (rCons (rTupE (rCons (rK (.int 1)) (rCons (rK (.int 0)) rNil))) rNil)))) gEq)))
  rNext)
def rd_law : RS := (rSeq (rForR [true, false, false, false, false, false, false] 6 (riR1 (rCons (rL (rCons (rK (.int 1)) (rCons (rL (rCons (rK (.int 6)) (rCons (rL (rCons (rVar 0) rNil) gLen) rNil)) gMin2) rNil)) gMax2) rNil)) (gNm 1) rd_law_b3)
  rd_law_r4)
end My

set_option Elab.async false
set_option linter.all false
set_option maxRecDepth 100000
set_option maxHeartbeats 1000000
namespace My
open PySem PySem.Spec PyProof.Rows L2 TT
def topS (i : Nat) : Stmt := PySem.Challenge.pw_winbytwo_k45_lines_of_strings.main.body.getD i (.Pass ⟨0, 0, 0, 0⟩)
end My

set_option Elab.async false
set_option linter.all false
set_option maxRecDepth 100000
set_option maxHeartbeats 1000000
namespace My
open PySem PySem.Spec PyProof.Rows L2 TT
structure Fx (mg : Str → Option Value) : Prop where
  n_enumerate : mg "enumerate" = none
  n_int : mg "int" = none
  n_len : mg "len" = none
  n_list : mg "list" = none
  n_max : mg "max" = none
  n_min : mg "min" = none
  n_range : mg "range" = none
  n_repr : mg "repr" = none
  n_zip : mg "zip" = none

section
variable {P : Program} {w : World} {K : PySem.W.Frag} {mg : Str → Option Value} {base : Heap} {G : Bg}
abbrev s_is_race : Stmt := topS 7
theorem sc_is_race : FnScope ["race"] ["race"] (defScope s_is_race) := ⟨rfl, rfl, rfl, by decide +kernel, rfl, by decide +kernel, by decide +kernel⟩

theorem der_is_race (fx : Fx mg) {cdv : Value} {f : Addr} {A : Around} {outer : List Env} {s : Shared} {H : Hp} {E : XK} {W : WX} (hr : RoomG 0 (A.deeper (envOfC "is_race" (defScope s_is_race) s.heap.objs.size f cdv)))
    (tk : Takes (cxT P w K mg base ["race"] "is_race" s_is_race f cdv A outer s H E) W) :
    JB (cxT P w K mg base ["race"] "is_race" s_is_race f cdv A outer s H E) W G 0 (defBody s_is_race) rd_is_race :=
  JB.cost (jb_cons (js_ret (jm [true] (je_and (je_eq hr.units (je_callB call_len v_len (by rfl) fx.n_len bt_len (ja_cons (je_v 0 (pv 0)) ja_nil)) je_int) (je_one (je_chain op_ge op_ge v_geI v_geI (je_sub1 (je_v 0 (pv 0)) je_int) (je_sub1 (je_v 0 (pv 0)) je_int) je_int)))))
  jb_nil) rfl

theorem ok_is_race (fx : Fx mg) {f : Addr} {fd : FuncData} (F : Fun K "is_race" "is_race" s_is_race f fd)
    (m : ∀ ds Q' E', ds.length = 1 → sp_is_race ds Q' E' → rd_is_race { nx := fun _ => Q' .non, rt := Q', ex := fun x _ => E' x } (startE ["race"] ds)) : FnT P w K mg base G 0 1 f fd ["race"] sp_is_race :=
  Fun.okT F sc_is_race fun cdv A outer s H E hr tk => ⟨_, der_is_race fx  hr tk, m⟩

abbrev s_has_won : Stmt := topS 8
theorem sc_has_won : FnScope ["race", "own", "other", "n", "m"] ["race", "own", "other"] (defScope s_has_won) := ⟨rfl, rfl, rfl, by decide +kernel, rfl, by decide +kernel, by decide +kernel⟩

theorem der_has_won (fx : Fx mg) {cdv : Value} {f : Addr} {A : Around} {outer : List Env} {s : Shared} {H : Hp} {E : XK} {W : WX} (hr : RoomG 0 (A.deeper (envOfC "has_won" (defScope s_has_won) s.heap.objs.size f cdv)))
    (tk : Takes (cxT P w K mg base ["race", "own", "other", "n", "m"] "has_won" s_has_won f cdv A outer s H E) W) :
    JB (cxT P w K mg base ["race", "own", "other", "n", "m"] "has_won" s_has_won f cdv A outer s H E) W G 0 (defBody s_has_won) rd_has_won :=
  JB.cost (jb_cons (js_asg (jm [true, false, false, false, false] (je_v 0 (pv 0))) (jg_tup rfl (jgs_cons (jg_name (pg_name (i := 3) sc_has_won.nd rfl (by first | exact .inl rfl | exact .inr rfl))) (jgs_cons (jg_name (pg_name (i := 4) sc_has_won.nd rfl (by first | exact .inl rfl | exact .inr rfl))) jgs_nil))))
  (jb_cons (js_ret (jm [false, true, true, true, true] (je_and (je_ge (je_v 1 (pv 1)) (je_v 3 (pv 3))) (je_one (je_ge (je_sub (je_v 1 (pv 1)) (je_v 2 (pv 2))) (je_v 4 (pv 4)))))))
  jb_nil)) rfl

theorem ok_has_won (fx : Fx mg) {f : Addr} {fd : FuncData} (F : Fun K "has_won" "has_won" s_has_won f fd)
    (m : ∀ ds Q' E', ds.length = 3 → sp_has_won ds Q' E' → rd_has_won { nx := fun _ => Q' .non, rt := Q', ex := fun x _ => E' x } (startE ["race", "own", "other", "n", "m"] ds)) : FnT P w K mg base G 0 1 f fd ["race", "own", "other"] sp_has_won :=
  Fun.okT F sc_has_won fun cdv A outer s H E hr tk => ⟨_, der_has_won fx  hr tk, m⟩

abbrev s_check_rule : Stmt := topS 10
theorem sc_check_rule : FnScope ["rule", "index", "race"] ["rule"] (defScope s_check_rule) := ⟨rfl, rfl, rfl, by decide +kernel, rfl, by decide +kernel, by decide +kernel⟩

theorem der_check_rule (fx : Fx mg) (c_is_race : CalT P w K mg base G "is_race" 0 1 ["race"] sp_is_race) {cdv : Value} {f : Addr} {A : Around} {outer : List Env} {s : Shared} {H : Hp} {E : XK} {W : WX} (hr : RoomG 1 (A.deeper (envOfC "check_rule" (defScope s_check_rule) s.heap.objs.size f cdv)))
    (tk : Takes (cxT P w K mg base ["rule", "index", "race"] "check_rule" s_check_rule f cdv A outer s H E) W) :
    JB (cxT P w K mg base ["rule", "index", "race"] "check_rule" s_check_rule f cdv A outer s H E) W G 0 (defBody s_check_rule) rd_check_rule :=
  JB.cost (jb_cons (js_for 4611686018427387904 [true, false, false] (passes_of rfl) rfl (ji_enum (by rfl) fx.n_enumerate (ja_cons (je_v 0 (pv 0)) ja_nil)) (jg_tup rfl (jgs_cons (jg_name (pg_name (i := 1) sc_check_rule.nd rfl (by first | exact .inl rfl | exact .inr rfl))) (jgs_cons (jg_name (pg_name (i := 2) sc_check_rule.nd rfl (by first | exact .inl rfl | exact .inr rfl))) jgs_nil))) (jb_cons (js_if [false, false, true] (jt_not (jt_e (je_callT (ps := ["race"]) c_is_race hr (by decide) tk (by rfl) (ja_cons (je_v 2 (pv 2)) ja_nil)))) (jb_cons js_never
  jb_nil) jb_nil)
  jb_nil))
  jb_nil) rfl

theorem ok_check_rule (fx : Fx mg) (c_is_race : CalT P w K mg base G "is_race" 0 1 ["race"] sp_is_race) {f : Addr} {fd : FuncData} (F : Fun K "check_rule" "check_rule" s_check_rule f fd)
    (m : ∀ ds Q' E', ds.length = 1 → sp_check_rule ds Q' E' → rd_check_rule { nx := fun _ => Q' .non, rt := Q', ex := fun x _ => E' x } (startE ["rule", "index", "race"] ds)) : FnT P w K mg base G 0 2 f fd ["rule"] sp_check_rule :=
  Fun.okT F sc_check_rule fun cdv A outer s H E hr tk => ⟨_, der_check_rule fx c_is_race hr tk, m⟩

abbrev s_check_letters : Stmt := topS 11
theorem sc_check_letters : FnScope ["points", "index", "letter"] ["points"] (defScope s_check_letters) := ⟨rfl, rfl, rfl, by decide +kernel, rfl, by decide +kernel, by decide +kernel⟩

theorem der_check_letters (fx : Fx mg) {cdv : Value} {f : Addr} {A : Around} {outer : List Env} {s : Shared} {H : Hp} {E : XK} {W : WX} (hr : RoomG 0 (A.deeper (envOfC "check_letters" (defScope s_check_letters) s.heap.objs.size f cdv)))
    (tk : Takes (cxT P w K mg base ["points", "index", "letter"] "check_letters" s_check_letters f cdv A outer s H E) W) :
    JB (cxT P w K mg base ["points", "index", "letter"] "check_letters" s_check_letters f cdv A outer s H E) W G 0 (defBody s_check_letters) rd_check_letters :=
  JB.cost (jb_cons (js_for 4611686018427387904 [true, false, false] (passes_of rfl) rfl (ji_enumT (by rfl) fx.n_enumerate (je_v 0 (pv 0))) (jg_tup rfl (jgs_cons (jg_name (pg_name (i := 1) sc_check_letters.nd rfl (by first | exact .inl rfl | exact .inr rfl))) (jgs_cons (jg_name (pg_name (i := 2) sc_check_letters.nd rfl (by first | exact .inl rfl | exact .inr rfl))) jgs_nil))) (jb_cons (js_if [false, false, true] (jt_notIn (hu65 hr) (je_v 2 (pv 2)) (je_tup (ja_cons je_str (ja_cons je_str ja_nil)))) (jb_cons js_never
  jb_nil) jb_nil)
  jb_nil))
  jb_nil) rfl

theorem ok_check_letters (fx : Fx mg) {f : Addr} {fd : FuncData} (F : Fun K "check_letters" "check_letters" s_check_letters f fd)
    (m : ∀ ds Q' E', ds.length = 1 → sp_check_letters ds Q' E' → rd_check_letters { nx := fun _ => Q' .non, rt := Q', ex := fun x _ => E' x } (startE ["points", "index", "letter"] ds)) : FnT P w K mg base G 0 1 f fd ["points"] sp_check_letters :=
  Fun.okT F sc_check_letters fun cdv A outer s H E hr tk => ⟨_, der_check_letters fx  hr tk, m⟩

abbrev s_start_scores : Stmt := topS 12
theorem sc_start_scores : FnScope ["rule"] ["rule"] (defScope s_start_scores) := ⟨rfl, rfl, rfl, by decide +kernel, rfl, by decide +kernel, by decide +kernel⟩

theorem der_start_scores (fx : Fx mg) {cdv : Value} {f : Addr} {A : Around} {outer : List Env} {s : Shared} {H : Hp} {E : XK} {W : WX} (hr : RoomG 0 (A.deeper (envOfC "start_scores" (defScope s_start_scores) s.heap.objs.size f cdv)))
    (tk : Takes (cxT P w K mg base ["rule"] "start_scores" s_start_scores f cdv A outer s H E) W) :
    JB (cxT P w K mg base ["rule"] "start_scores" s_start_scores f cdv A outer s H E) W G 0 (defBody s_start_scores) rd_start_scores :=
  JB.cost (jb_cons (js_ret (jm [true] (je_mulX (je_lst (ja_cons (je_tup (ja_cons je_int (ja_cons je_int ja_nil))) ja_nil)) (je_callB call_len v_len (by rfl) fx.n_len bt_len (ja_cons (je_v 0 (pv 0)) ja_nil)))))
  jb_nil) rfl

theorem ok_start_scores (fx : Fx mg) {f : Addr} {fd : FuncData} (F : Fun K "start_scores" "start_scores" s_start_scores f fd)
    (m : ∀ ds Q' E', ds.length = 1 → sp_start_scores ds Q' E' → rd_start_scores { nx := fun _ => Q' .non, rt := Q', ex := fun x _ => E' x } (startE ["rule"] ds)) : FnT P w K mg base G 0 1 f fd ["rule"] sp_start_scores :=
  Fun.okT F sc_start_scores fun cdv A outer s H E hr tk => ⟨_, der_start_scores fx  hr tk, m⟩

abbrev s_add_unit : Stmt := topS 13
theorem sc_add_unit : FnScope ["score", "side", "a", "b"] ["score", "side"] (defScope s_add_unit) := ⟨rfl, rfl, rfl, by decide +kernel, rfl, by decide +kernel, by decide +kernel⟩

theorem der_add_unit (fx : Fx mg) {cdv : Value} {f : Addr} {A : Around} {outer : List Env} {s : Shared} {H : Hp} {E : XK} {W : WX} (hr : RoomG 0 (A.deeper (envOfC "add_unit" (defScope s_add_unit) s.heap.objs.size f cdv)))
    (tk : Takes (cxT P w K mg base ["score", "side", "a", "b"] "add_unit" s_add_unit f cdv A outer s H E) W) :
    JB (cxT P w K mg base ["score", "side", "a", "b"] "add_unit" s_add_unit f cdv A outer s H E) W G 0 (defBody s_add_unit) rd_add_unit :=
  JB.cost (jb_cons (js_asg (jm [true, false, false, false] (je_v 0 (pv 0))) (jg_tup rfl (jgs_cons (jg_name (pg_name (i := 2) sc_add_unit.nd rfl (by first | exact .inl rfl | exact .inr rfl))) (jgs_cons (jg_name (pg_name (i := 3) sc_add_unit.nd rfl (by first | exact .inl rfl | exact .inr rfl))) jgs_nil))))
  (jb_cons (js_if [false, true, false, false] (jt_eq hr.units (je_v 1 (pv 1)) je_str) (jb_cons (js_ret (jm [false, false, true, true] (je_tup (ja_cons (je_add (je_v 2 (pv 2)) je_int) (ja_cons (je_v 3 (pv 3)) ja_nil)))))
  jb_nil) jb_nil)
  (jb_cons (js_ret (jm [false, false, true, true] (je_tup (ja_cons (je_v 2 (pv 2)) (ja_cons (je_add (je_v 3 (pv 3)) je_int) ja_nil)))))
  jb_nil))) rfl

theorem ok_add_unit (fx : Fx mg) {f : Addr} {fd : FuncData} (F : Fun K "add_unit" "add_unit" s_add_unit f fd)
    (m : ∀ ds Q' E', ds.length = 2 → sp_add_unit ds Q' E' → rd_add_unit { nx := fun _ => Q' .non, rt := Q', ex := fun x _ => E' x } (startE ["score", "side", "a", "b"] ds)) : FnT P w K mg base G 0 1 f fd ["score", "side"] sp_add_unit :=
  Fun.okT F sc_add_unit fun cdv A outer s H E hr tk => ⟨_, der_add_unit fx  hr tk, m⟩

abbrev s_wins_race : Stmt := topS 14
theorem sc_wins_race : FnScope ["race", "score", "side", "a", "b"] ["race", "score", "side"] (defScope s_wins_race) := ⟨rfl, rfl, rfl, by decide +kernel, rfl, by decide +kernel, by decide +kernel⟩

theorem der_wins_race (fx : Fx mg) (c_has_won : CalT P w K mg base G "has_won" 0 1 ["race", "own", "other"] sp_has_won) {cdv : Value} {f : Addr} {A : Around} {outer : List Env} {s : Shared} {H : Hp} {E : XK} {W : WX} (hr : RoomG 1 (A.deeper (envOfC "wins_race" (defScope s_wins_race) s.heap.objs.size f cdv)))
    (tk : Takes (cxT P w K mg base ["race", "score", "side", "a", "b"] "wins_race" s_wins_race f cdv A outer s H E) W) :
    JB (cxT P w K mg base ["race", "score", "side", "a", "b"] "wins_race" s_wins_race f cdv A outer s H E) W G 0 (defBody s_wins_race) rd_wins_race :=
  JB.cost (jb_cons (js_asg (jm [false, true, false, false, false] (je_v 1 (pv 1))) (jg_tup rfl (jgs_cons (jg_name (pg_name (i := 3) sc_wins_race.nd rfl (by first | exact .inl rfl | exact .inr rfl))) (jgs_cons (jg_name (pg_name (i := 4) sc_wins_race.nd rfl (by first | exact .inl rfl | exact .inr rfl))) jgs_nil))))
  (jb_cons (js_if [false, false, true, false, false] (jt_eq hr.units (je_v 2 (pv 2)) je_str) (jb_cons (js_ret (jm [true, false, false, true, true] (je_callT (ps := ["race", "own", "other"]) c_has_won hr (by decide) tk (by rfl) (ja_cons (je_v 0 (pv 0)) (ja_cons (je_v 3 (pv 3)) (ja_cons (je_v 4 (pv 4)) ja_nil))))))
  jb_nil) jb_nil)
  (jb_cons (js_ret (jm [true, false, false, true, true] (je_callT (ps := ["race", "own", "other"]) c_has_won hr (by decide) tk (by rfl) (ja_cons (je_v 0 (pv 0)) (ja_cons (je_v 4 (pv 4)) (ja_cons (je_v 3 (pv 3)) ja_nil))))))
  jb_nil))) rfl

theorem ok_wins_race (fx : Fx mg) (c_has_won : CalT P w K mg base G "has_won" 0 1 ["race", "own", "other"] sp_has_won) {f : Addr} {fd : FuncData} (F : Fun K "wins_race" "wins_race" s_wins_race f fd)
    (m : ∀ ds Q' E', ds.length = 3 → sp_wins_race ds Q' E' → rd_wins_race { nx := fun _ => Q' .non, rt := Q', ex := fun x _ => E' x } (startE ["race", "score", "side", "a", "b"] ds)) : FnT P w K mg base G 0 2 f fd ["race", "score", "side"] sp_wins_race :=
  Fun.okT F sc_wins_race fun cdv A outer s H E hr tk => ⟨_, der_wins_race fx c_has_won hr tk, m⟩

abbrev s_add_point : Stmt := topS 15
theorem sc_add_point : FnScope ["rule", "scores", "side", "found", "level", "race"] ["rule", "scores", "side"] (defScope s_add_point) := ⟨rfl, rfl, rfl, by decide +kernel, rfl, by decide +kernel, by decide +kernel⟩

theorem der_add_point (fx : Fx mg) (c_add_unit : CalT P w K mg base G "add_unit" 0 1 ["score", "side"] sp_add_unit) (c_wins_race : CalT P w K mg base G "wins_race" 0 2 ["race", "score", "side"] sp_wins_race) {cdv : Value} {f : Addr} {A : Around} {outer : List Env} {s : Shared} {H : Hp} {E : XK} {W : WX} (hr : RoomG 2 (A.deeper (envOfC "add_point" (defScope s_add_point) s.heap.objs.size f cdv)))
    (tk : Takes (cxT P w K mg base ["rule", "scores", "side", "found", "level", "race"] "add_point" s_add_point f cdv A outer s H E) W) :
    JB (cxT P w K mg base ["rule", "scores", "side", "found", "level", "race"] "add_point" s_add_point f cdv A outer s H E) W G 0 (defBody s_add_point) rd_add_point :=
  JB.cost (jb_cons (js_set (i := 3) sc_add_point.nd rfl (by first | exact .inl rfl | exact .inr rfl) (jm [false, true, false, false, false, false] (je_callTy call_list_of v_list (by rfl) fx.n_list bt_list (ja_cons (je_v 1 (pv 1)) ja_nil))))
  (jb_cons (js_for 4611686018427387904 [true, false, false, false, false, false] (passes_of rfl) rfl (ji_enum (by rfl) fx.n_enumerate (ja_cons (je_v 0 (pv 0)) ja_nil)) (jg_tup rfl (jgs_cons (jg_name (pg_name (i := 4) sc_add_point.nd rfl (by first | exact .inl rfl | exact .inr rfl))) (jgs_cons (jg_name (pg_name (i := 5) sc_add_point.nd rfl (by first | exact .inl rfl | exact .inr rfl))) jgs_nil))) (jb_cons (js_putV (i := 3) (j := 4) (pv 3) (pv 4) (jm [false, true, true, false, true, false] (je_callT (ps := ["score", "side"]) c_add_unit hr (by decide) tk (by rfl) (ja_cons (je_sub1 (je_v 1 (pv 1)) (je_v 4 (pv 4))) (ja_cons (je_v 2 (pv 2)) ja_nil)))))
  (jb_cons (js_if [false, false, true, true, true, true] (jt_not (jt_e (je_callT (ps := ["race", "score", "side"]) c_wins_race hr (by decide) tk (by rfl) (ja_cons (je_v 5 (pv 5)) (ja_cons (je_sub1 (je_v 3 (pv 3)) (je_v 4 (pv 4))) (ja_cons (je_v 2 (pv 2)) ja_nil)))))) (jb_cons (js_ret (jm [false, false, false, true, false, false] (je_tup (ja_cons (je_v 3 (pv 3)) (ja_cons je_bl ja_nil)))))
  jb_nil) jb_nil)
  (jb_cons (js_if [true, false, false, false, true, false] (jt_lt (je_add (je_v 4 (pv 4)) je_int) (je_callB call_len v_len (by rfl) fx.n_len bt_len (ja_cons (je_v 0 (pv 0)) ja_nil))) (jb_cons (js_putV (i := 3) (j := 4) (pv 3) (pv 4) (jm [false, false, false, false, false, false] (je_tup (ja_cons je_int (ja_cons je_int ja_nil)))))
  jb_nil) jb_nil)
  jb_nil))))
  (jb_cons (js_ret (jm [false, false, false, true, false, false] (je_tup (ja_cons (je_v 3 (pv 3)) (ja_cons je_bl ja_nil)))))
  jb_nil))) rfl

theorem ok_add_point (fx : Fx mg) (c_add_unit : CalT P w K mg base G "add_unit" 0 1 ["score", "side"] sp_add_unit) (c_wins_race : CalT P w K mg base G "wins_race" 0 2 ["race", "score", "side"] sp_wins_race) {f : Addr} {fd : FuncData} (F : Fun K "add_point" "add_point" s_add_point f fd)
    (m : ∀ ds Q' E', ds.length = 3 → sp_add_point ds Q' E' → rd_add_point { nx := fun _ => Q' .non, rt := Q', ex := fun x _ => E' x } (startE ["rule", "scores", "side", "found", "level", "race"] ds)) : FnT P w K mg base G 0 3 f fd ["rule", "scores", "side"] sp_add_point :=
  Fun.okT F sc_add_point fun cdv A outer s H E hr tk => ⟨_, der_add_point fx c_add_unit c_wins_race hr tk, m⟩

abbrev s_walk : Stmt := topS 16
theorem sc_walk : FnScope ["rule", "points", "scores", "number", "side", "over"] ["rule", "points"] (defScope s_walk) := ⟨rfl, rfl, rfl, by decide +kernel, rfl, by decide +kernel, by decide +kernel⟩

theorem der_walk (fx : Fx mg) (c_add_point : CalT P w K mg base G "add_point" 0 3 ["rule", "scores", "side"] sp_add_point) (c_start_scores : CalT P w K mg base G "start_scores" 0 1 ["rule"] sp_start_scores) {cdv : Value} {f : Addr} {A : Around} {outer : List Env} {s : Shared} {H : Hp} {E : XK} {W : WX} (hr : RoomG 3 (A.deeper (envOfC "walk" (defScope s_walk) s.heap.objs.size f cdv)))
    (tk : Takes (cxT P w K mg base ["rule", "points", "scores", "number", "side", "over"] "walk" s_walk f cdv A outer s H E) W) :
    JB (cxT P w K mg base ["rule", "points", "scores", "number", "side", "over"] "walk" s_walk f cdv A outer s H E) W G 0 (defBody s_walk) rd_walk :=
  JB.cost (jb_cons (js_set (i := 2) sc_walk.nd rfl (by first | exact .inl rfl | exact .inr rfl) (jm [true, false, false, false, false, false] (je_callT (ps := ["rule"]) c_start_scores hr (by decide) tk (by rfl) (ja_cons (je_v 0 (pv 0)) ja_nil))))
  (jb_cons (js_for 4611686018427387904 [false, true, false, false, false, false] (passes_of rfl) rfl (ji_enumK (k := 1) (by rfl) fx.n_enumerate (je_v 1 (pv 1)) (pk_cons pe_int pk_nil) (by decide)) (jg_tup rfl (jgs_cons (jg_name (pg_name (i := 3) sc_walk.nd rfl (by first | exact .inl rfl | exact .inr rfl))) (jgs_cons (jg_name (pg_name (i := 4) sc_walk.nd rfl (by first | exact .inl rfl | exact .inr rfl))) jgs_nil))) (jb_cons (js_asg (jm [true, false, true, false, true, false] (je_callT (ps := ["rule", "scores", "side"]) c_add_point hr (by decide) tk (by rfl) (ja_cons (je_v 0 (pv 0)) (ja_cons (je_v 2 (pv 2)) (ja_cons (je_v 4 (pv 4)) ja_nil))))) (jg_tup rfl (jgs_cons (jg_name (pg_name (i := 2) sc_walk.nd rfl (by first | exact .inl rfl | exact .inr rfl))) (jgs_cons (jg_name (pg_name (i := 5) sc_walk.nd rfl (by first | exact .inl rfl | exact .inr rfl))) jgs_nil))))
  (jb_cons (js_if [false, false, false, false, false, true] (jt_e (je_v 5 (pv 5))) (jb_cons (js_ret (jm [false, false, true, true, true, false] (je_tup (ja_cons (je_v 3 (pv 3)) (ja_cons (je_v 4 (pv 4)) (ja_cons (je_v 2 (pv 2)) ja_nil))))))
  jb_nil) jb_nil)
  jb_nil)))
  (jb_cons (js_ret (jm [false, false, true, false, false, false] (je_tup (ja_cons je_non (ja_cons je_non (ja_cons (je_v 2 (pv 2)) ja_nil))))))
  jb_nil))) rfl

theorem ok_walk (fx : Fx mg) (c_add_point : CalT P w K mg base G "add_point" 0 3 ["rule", "scores", "side"] sp_add_point) (c_start_scores : CalT P w K mg base G "start_scores" 0 1 ["rule"] sp_start_scores) {f : Addr} {fd : FuncData} (F : Fun K "walk" "walk" s_walk f fd)
    (m : ∀ ds Q' E', ds.length = 2 → sp_walk ds Q' E' → rd_walk { nx := fun _ => Q' .non, rt := Q', ex := fun x _ => E' x } (startE ["rule", "points", "scores", "number", "side", "over"] ds)) : FnT P w K mg base G 0 4 f fd ["rule", "points"] sp_walk :=
  Fun.okT F sc_walk fun cdv A outer s H E hr tk => ⟨_, der_walk fx c_add_point c_start_scores hr tk, m⟩

abbrev s_play : Stmt := topS 17
theorem sc_play : FnScope ["rule", "points", "number", "winner", "scores"] ["rule", "points"] (defScope s_play) := ⟨rfl, rfl, rfl, by decide +kernel, rfl, by decide +kernel, by decide +kernel⟩

theorem der_play (fx : Fx mg) (c_check_letters : CalT P w K mg base G "check_letters" 0 1 ["points"] sp_check_letters) (c_check_rule : CalT P w K mg base G "check_rule" 0 2 ["rule"] sp_check_rule) (c_walk : CalT P w K mg base G "walk" 0 4 ["rule", "points"] sp_walk) {cdv : Value} {f : Addr} {A : Around} {outer : List Env} {s : Shared} {H : Hp} {E : XK} {W : WX} (hr : RoomG 4 (A.deeper (envOfC "play" (defScope s_play) s.heap.objs.size f cdv)))
    (tk : Takes (cxT P w K mg base ["rule", "points", "number", "winner", "scores"] "play" s_play f cdv A outer s H E) W) :
    JB (cxT P w K mg base ["rule", "points", "number", "winner", "scores"] "play" s_play f cdv A outer s H E) W G 0 (defBody s_play) rd_play :=
  JB.cost (jb_cons (js_expr (jm [true, false, false, false, false] (je_callT (ps := ["rule"]) c_check_rule hr (by decide) tk (by rfl) (ja_cons (je_v 0 (pv 0)) ja_nil))))
  (jb_cons (js_expr (jm [false, true, false, false, false] (je_callT (ps := ["points"]) c_check_letters hr (by decide) tk (by rfl) (ja_cons (je_v 1 (pv 1)) ja_nil))))
  (jb_cons (js_asg (jm [true, true, false, false, false] (je_callT (ps := ["rule", "points"]) c_walk hr (by decide) tk (by rfl) (ja_cons (je_v 0 (pv 0)) (ja_cons (je_v 1 (pv 1)) ja_nil)))) (jg_tup rfl (jgs_cons (jg_name (pg_name (i := 2) sc_play.nd rfl (by first | exact .inl rfl | exact .inr rfl))) (jgs_cons (jg_name (pg_name (i := 3) sc_play.nd rfl (by first | exact .inl rfl | exact .inr rfl))) (jgs_cons (jg_name (pg_name (i := 4) sc_play.nd rfl (by first | exact .inl rfl | exact .inr rfl))) jgs_nil)))))
  (jb_cons (js_if [false, true, true, false, false] (JW.jt (jw_and (jt_notN (je_v 2 (pv 2)) je_non) (jw_and1 (jt_lt (je_v 2 (pv 2)) (je_callB call_len v_len (by rfl) fx.n_len bt_len (ja_cons (je_v 1 (pv 1)) ja_nil)))))) (jb_cons js_never
  jb_nil) jb_nil)
  (jb_cons (js_ret (jm [false, false, false, true, true] (je_tup (ja_cons (je_v 3 (pv 3)) (ja_cons (je_v 4 (pv 4)) ja_nil)))))
  jb_nil))))) rfl

theorem ok_play (fx : Fx mg) (c_check_letters : CalT P w K mg base G "check_letters" 0 1 ["points"] sp_check_letters) (c_check_rule : CalT P w K mg base G "check_rule" 0 2 ["rule"] sp_check_rule) (c_walk : CalT P w K mg base G "walk" 0 4 ["rule", "points"] sp_walk) {f : Addr} {fd : FuncData} (F : Fun K "play" "play" s_play f fd)
    (m : ∀ ds Q' E', ds.length = 2 → sp_play ds Q' E' → rd_play { nx := fun _ => Q' .non, rt := Q', ex := fun x _ => E' x } (startE ["rule", "points", "number", "winner", "scores"] ds)) : FnT P w K mg base G 0 5 f fd ["rule", "points"] sp_play :=
  Fun.okT F sc_play fun cdv A outer s H E hr tk => ⟨_, der_play fx c_check_letters c_check_rule c_walk hr tk, m⟩

abbrev s_check_level : Stmt := topS 19
theorem sc_check_level : FnScope ["rule", "level"] ["rule", "level"] (defScope s_check_level) := ⟨rfl, rfl, rfl, by decide +kernel, rfl, by decide +kernel, by decide +kernel⟩

theorem der_check_level (fx : Fx mg) {cdv : Value} {f : Addr} {A : Around} {outer : List Env} {s : Shared} {H : Hp} {E : XK} {W : WX} (hr : RoomG 0 (A.deeper (envOfC "check_level" (defScope s_check_level) s.heap.objs.size f cdv)))
    (tk : Takes (cxT P w K mg base ["rule", "level"] "check_level" s_check_level f cdv A outer s H E) W) :
    JB (cxT P w K mg base ["rule", "level"] "check_level" s_check_level f cdv A outer s H E) W G 0 (defBody s_check_level) rd_check_level :=
  JB.cost (jb_cons (js_if [true, true] (jt_not (jt_chain op_le op_lt v_leI v_ltI je_int (je_v 1 (pv 1)) (je_callB call_len v_len (by rfl) fx.n_len bt_len (ja_cons (je_v 0 (pv 0)) ja_nil)))) (jb_cons js_never
  jb_nil) jb_nil)
  jb_nil) rfl

theorem ok_check_level (fx : Fx mg) {f : Addr} {fd : FuncData} (F : Fun K "check_level" "check_level" s_check_level f fd)
    (m : ∀ ds Q' E', ds.length = 2 → sp_check_level ds Q' E' → rd_check_level { nx := fun _ => Q' .non, rt := Q', ex := fun x _ => E' x } (startE ["rule", "level"] ds)) : FnT P w K mg base G 0 1 f fd ["rule", "level"] sp_check_level :=
  Fun.okT F sc_check_level fun cdv A outer s H E hr tk => ⟨_, der_check_level fx  hr tk, m⟩

abbrev s_lines_in : Stmt := topS 20
theorem sc_lines_in : FnScope ["race", "units", "found", "winners", "score", "side"] ["race", "units"] (defScope s_lines_in) := ⟨rfl, rfl, rfl, by decide +kernel, rfl, by decide +kernel, by decide +kernel⟩

theorem der_lines_in (fx : Fx mg) (c_add_unit : CalT P w K mg base G "add_unit" 0 1 ["score", "side"] sp_add_unit) (c_wins_race : CalT P w K mg base G "wins_race" 0 2 ["race", "score", "side"] sp_wins_race) {cdv : Value} {f : Addr} {A : Around} {outer : List Env} {s : Shared} {H : Hp} {E : XK} {W : WX} (hr : RoomG 2 (A.deeper (envOfC "lines_in" (defScope s_lines_in) s.heap.objs.size f cdv)))
    (tk : Takes (cxT P w K mg base ["race", "units", "found", "winners", "score", "side"] "lines_in" s_lines_in f cdv A outer s H E) W) :
    JB (cxT P w K mg base ["race", "units", "found", "winners", "score", "side"] "lines_in" s_lines_in f cdv A outer s H E) W G 0 (defBody s_lines_in) rd_lines_in :=
  JB.cost (jb_cons (js_set (i := 2) sc_lines_in.nd rfl (by first | exact .inl rfl | exact .inr rfl) (jm [false, false, false, false, false, false] (je_lst ja_nil)))
  (jb_cons (js_set (i := 3) sc_lines_in.nd rfl (by first | exact .inl rfl | exact .inr rfl) (jm [false, false, false, false, false, false] je_str))
  (jb_cons (js_set (i := 4) sc_lines_in.nd rfl (by first | exact .inl rfl | exact .inr rfl) (jm [false, false, false, false, false, false] (je_tup (ja_cons je_int (ja_cons je_int ja_nil)))))
  (jb_cons (js_for 4611686018427387904 [false, true, false, false, false, false] (passes_of rfl) rfl (ji_any (je_v 1 (pv 1))) (jg_name (pg_name (i := 5) sc_lines_in.nd rfl (by first | exact .inl rfl | exact .inr rfl))) (jb_cons (js_set (i := 4) sc_lines_in.nd rfl (by first | exact .inl rfl | exact .inr rfl) (jm [false, false, false, false, true, true] (je_callT (ps := ["score", "side"]) c_add_unit hr (by decide) tk (by rfl) (ja_cons (je_v 4 (pv 4)) (ja_cons (je_v 5 (pv 5)) ja_nil)))))
  (jb_cons (js_if [true, false, false, false, true, true] (jt_e (je_callT (ps := ["race", "score", "side"]) c_wins_race hr (by decide) tk (by rfl) (ja_cons (je_v 0 (pv 0)) (ja_cons (je_v 4 (pv 4)) (ja_cons (je_v 5 (pv 5)) ja_nil))))) (jb_cons (js_append (i := 2) (pv 2) (jm [false, false, false, false, true, false] (je_v 4 (pv 4))))
  (jb_cons (js_augX (i := 3) sc_lines_in.nd rfl (by first | exact .inl rfl | exact .inr rfl) (jm [false, false, false, false, false, true] (je_v 5 (pv 5))))
  (jb_cons (js_set (i := 4) sc_lines_in.nd rfl (by first | exact .inl rfl | exact .inr rfl) (jm [false, false, false, false, false, false] (je_tup (ja_cons je_int (ja_cons je_int ja_nil)))))
  jb_nil))) jb_nil)
  jb_nil)))
  (jb_cons (js_if [false, false, false, false, true, false] (jt_ne hr.units (je_v 4 (pv 4)) (je_tup (ja_cons je_int (ja_cons je_int ja_nil)))) (jb_cons (js_append (i := 2) (pv 2) (jm [false, false, false, false, true, false] (je_v 4 (pv 4))))
  jb_nil) jb_nil)
  (jb_cons (js_ret (jm_mv2 (i := 2) (j := 3) (by decide) (pv 2) (pv 3)))
  jb_nil)))))) rfl

theorem ok_lines_in (fx : Fx mg) (c_add_unit : CalT P w K mg base G "add_unit" 0 1 ["score", "side"] sp_add_unit) (c_wins_race : CalT P w K mg base G "wins_race" 0 2 ["race", "score", "side"] sp_wins_race) {f : Addr} {fd : FuncData} (F : Fun K "lines_in" "lines_in" s_lines_in f fd)
    (m : ∀ ds Q' E', ds.length = 2 → sp_lines_in ds Q' E' → rd_lines_in { nx := fun _ => Q' .non, rt := Q', ex := fun x _ => E' x } (startE ["race", "units", "found", "winners", "score", "side"] ds)) : FnT P w K mg base G 0 3 f fd ["race", "units"] sp_lines_in :=
  Fun.okT F sc_lines_in fun cdv A outer s H E hr tk => ⟨_, der_lines_in fx c_add_unit c_wins_race hr tk, m⟩

abbrev s_lines_of : Stmt := topS 21
theorem sc_lines_of : FnScope ["rule", "points", "level", "units", "race", "found", "_"] ["rule", "points", "level"] (defScope s_lines_of) := ⟨rfl, rfl, rfl, by decide +kernel, rfl, by decide +kernel, by decide +kernel⟩

theorem der_lines_of (fx : Fx mg) (c_check_level : CalT P w K mg base G "check_level" 0 1 ["rule", "level"] sp_check_level) (c_lines_in : CalT P w K mg base G "lines_in" 0 3 ["race", "units"] sp_lines_in) (c_play : CalT P w K mg base G "play" 0 5 ["rule", "points"] sp_play) {cdv : Value} {f : Addr} {A : Around} {outer : List Env} {s : Shared} {H : Hp} {E : XK} {W : WX} (hr : RoomG 5 (A.deeper (envOfC "lines_of" (defScope s_lines_of) s.heap.objs.size f cdv)))
    (tk : Takes (cxT P w K mg base ["rule", "points", "level", "units", "race", "found", "_"] "lines_of" s_lines_of f cdv A outer s H E) W) :
    JB (cxT P w K mg base ["rule", "points", "level", "units", "race", "found", "_"] "lines_of" s_lines_of f cdv A outer s H E) W G 0 (defBody s_lines_of) rd_lines_of :=
  JB.cost (jb_cons (js_expr (jm [true, true, false, false, false, false, false] (je_callT (ps := ["rule", "points"]) c_play hr (by decide) tk (by rfl) (ja_cons (je_v 0 (pv 0)) (ja_cons (je_v 1 (pv 1)) ja_nil)))))
  (jb_cons (js_expr (jm [true, false, true, false, false, false, false] (je_callT (ps := ["rule", "level"]) c_check_level hr (by decide) tk (by rfl) (ja_cons (je_v 0 (pv 0)) (ja_cons (je_v 2 (pv 2)) ja_nil)))))
  (jb_cons (js_set (i := 3) sc_lines_of.nd rfl (by first | exact .inl rfl | exact .inr rfl) (jm [false, true, false, false, false, false, false] (je_v 1 (pv 1))))
  (jb_cons (js_for 4611686018427387904 [true, false, true, false, false, false, false] (passes_of rfl) rfl (ji_any (je_slHiZ (je_v 0 (pv 0)) (je_v 2 (pv 2)))) (jg_name (pg_name (i := 4) sc_lines_of.nd rfl (by first | exact .inl rfl | exact .inr rfl))) (jb_cons (js_asg (jm [false, false, false, true, true, false, false] (je_callT (ps := ["race", "units"]) c_lines_in hr (by decide) tk (by rfl) (ja_cons (je_v 4 (pv 4)) (ja_cons (je_v 3 (pv 3)) ja_nil)))) (jg_tup rfl (jgs_cons (jg_name (pg_name (i := 6) sc_lines_of.nd rfl (by first | exact .inl rfl | exact .inr rfl))) (jgs_cons (jg_name (pg_name (i := 3) sc_lines_of.nd rfl (by first | exact .inl rfl | exact .inr rfl))) jgs_nil))))
  jb_nil))
  (jb_cons (js_asg (jm [true, false, true, true, false, false, false] (je_callT (ps := ["race", "units"]) c_lines_in hr (by decide) tk (by rfl) (ja_cons (je_sub1 (je_v 0 (pv 0)) (je_v 2 (pv 2))) (ja_cons (je_v 3 (pv 3)) ja_nil)))) (jg_tup rfl (jgs_cons (jg_name (pg_name (i := 5) sc_lines_of.nd rfl (by first | exact .inl rfl | exact .inr rfl))) (jgs_cons (jg_name (pg_name (i := 6) sc_lines_of.nd rfl (by first | exact .inl rfl | exact .inr rfl))) jgs_nil))))
  (jb_cons (js_ret (jm_mv 5 (pv 5)))
  jb_nil)))))) rfl

theorem ok_lines_of (fx : Fx mg) (c_check_level : CalT P w K mg base G "check_level" 0 1 ["rule", "level"] sp_check_level) (c_lines_in : CalT P w K mg base G "lines_in" 0 3 ["race", "units"] sp_lines_in) (c_play : CalT P w K mg base G "play" 0 5 ["rule", "points"] sp_play) {f : Addr} {fd : FuncData} (F : Fun K "lines_of" "lines_of" s_lines_of f fd)
    (m : ∀ ds Q' E', ds.length = 3 → sp_lines_of ds Q' E' → rd_lines_of { nx := fun _ => Q' .non, rt := Q', ex := fun x _ => E' x } (startE ["rule", "points", "level", "units", "race", "found", "_"] ds)) : FnT P w K mg base G 0 6 f fd ["rule", "points", "level"] sp_lines_of :=
  Fun.okT F sc_lines_of fun cdv A outer s H E hr tk => ⟨_, der_lines_of fx c_check_level c_lines_in c_play hr tk, m⟩

abbrev s__law_rule : Stmt := topS 25
theorem sc__law_rule : FnScope ["pool", "levels", "product", "found", "left", "turn", "units", "lead"] ["pool", "levels", "product"] (defScope s__law_rule) := ⟨rfl, rfl, rfl, by decide +kernel, rfl, by decide +kernel, by decide +kernel⟩

theorem der__law_rule (fx : Fx mg) (c__law_draw : CalT P w K mg base G "_law_draw" 1 1 ["pool", "many"] spDraw) {cdv : Value} {f : Addr} {A : Around} {outer : List Env} {s : Shared} {H : Hp} {E : XK} {W : WX} (hr : RoomG 1 (A.deeper (envOfC "_law_rule" (defScope s__law_rule) s.heap.objs.size f cdv)))
    (tk : Takes (cxT P w K mg base ["pool", "levels", "product", "found", "left", "turn", "units", "lead"] "_law_rule" s__law_rule f cdv A outer s H E) W) :
    JB (cxT P w K mg base ["pool", "levels", "product", "found", "left", "turn", "units", "lead"] "_law_rule" s__law_rule f cdv A outer s H E) W G 13 (defBody s__law_rule) rd_law_rule :=
  JB.cost (jb_cons (js_par (i := 3) (j := 4) [false, false, true, false, false, false, false, false] rfl sc__law_rule.nd rfl rfl (by decide) rfl rfl (ja_cons (je_lst ja_nil) (ja_cons (je_v 2 (pv 2)) ja_nil)) rfl)
  (jb_cons (js_forR 4 [true, true, false, false, false, false, false, false] (passes_of rfl) rfl (jf_rng1 (by rfl) fx.n_range (ja_cons (je_callT (ps := ["pool", "many"]) c__law_draw hr (by decide) tk (by rfl) (ja_cons (je_v 0 (pv 0)) (ja_cons (je_add (je_v 1 (pv 1)) je_int) ja_nil))) ja_nil)) (jg_name (pg_name (i := 5) sc__law_rule.nd rfl (by first | exact .inl rfl | exact .inr rfl))) (jb_cons (js_set (i := 6) sc__law_rule.nd rfl (by first | exact .inl rfl | exact .inr rfl) (jm [true, false, false, false, true, false, false, false] (je_add je_int (je_callT (ps := ["pool", "many"]) c__law_draw hr (by decide) tk (by rfl) (ja_cons (je_v 0 (pv 0)) (ja_cons (je_callB (call_min2 rfl) v_min (by rfl) fx.n_min bt_min (ja_cons je_int (ja_cons (je_v 4 (pv 4)) ja_nil))) ja_nil))))))
  (jb_cons (js_set (i := 7) sc__law_rule.nd rfl (by first | exact .inl rfl | exact .inr rfl) (jm [true, false, false, false, false, false, true, false] (je_sub1 (je_lst (ja_cons je_int (ja_cons (je_callB (call_min2 rfl) v_min (by rfl) fx.n_min bt_min (ja_cons (je_v 6 (pv 6)) (ja_cons je_int ja_nil))) (ja_cons (je_v 6 (pv 6)) (ja_cons (je_add je_int (je_callT (ps := ["pool", "many"]) c__law_draw hr (by decide) tk (by rfl) (ja_cons (je_v 0 (pv 0)) (ja_cons (je_v 6 (pv 6)) ja_nil)))) ja_nil))))) (je_callT (ps := ["pool", "many"]) c__law_draw hr (by decide) tk (by rfl) (ja_cons (je_v 0 (pv 0)) (ja_cons je_int ja_nil))))))
  (jb_cons (js_append (i := 3) (pv 3) (jm [false, false, false, false, false, false, true, true] (je_tup (ja_cons (je_v 6 (pv 6)) (ja_cons (je_v 7 (pv 7)) ja_nil)))))
  (jb_cons (js_set (i := 4) sc__law_rule.nd rfl (by first | exact .inl rfl | exact .inr rfl) (jm [false, false, false, false, true, false, true, false] (je_div (je_v 4 (pv 4)) (je_v 6 (pv 6)))))
  jb_nil)))))
  (jb_cons (js_ret (jm_mv 3 (pv 3)))
  jb_nil))) rfl

theorem ok__law_rule (fx : Fx mg) (c__law_draw : CalT P w K mg base G "_law_draw" 1 1 ["pool", "many"] spDraw) {f : Addr} {fd : FuncData} (F : Fun K "_law_rule" "_law_rule" s__law_rule f fd)
    (m : ∀ ds Q' E', ds.length = 3 → sp_law_rule ds Q' E' → rd_law_rule { nx := fun _ => Q' .non, rt := Q', ex := fun x _ => E' x } (startE ["pool", "levels", "product", "found", "left", "turn", "units", "lead"] ds)) : FnT P w K mg base G 13 2 f fd ["pool", "levels", "product"] sp_law_rule :=
  Fun.okT F sc__law_rule fun cdv A outer s H E hr tk => ⟨_, der__law_rule fx c__law_draw hr tk, m⟩

abbrev s__law_won : Stmt := topS 26
theorem sc__law_won : FnScope ["race", "one", "two"] ["race", "one", "two"] (defScope s__law_won) := ⟨rfl, rfl, rfl, by decide +kernel, rfl, by decide +kernel, by decide +kernel⟩

theorem der__law_won (fx : Fx mg) {cdv : Value} {f : Addr} {A : Around} {outer : List Env} {s : Shared} {H : Hp} {E : XK} {W : WX} (hr : RoomG 0 (A.deeper (envOfC "_law_won" (defScope s__law_won) s.heap.objs.size f cdv)))
    (tk : Takes (cxT P w K mg base ["race", "one", "two"] "_law_won" s__law_won f cdv A outer s H E) W) :
    JB (cxT P w K mg base ["race", "one", "two"] "_law_won" s__law_won f cdv A outer s H E) W G 0 (defBody s__law_won) rd_law_won :=
  JB.cost (jb_cons (js_if [true, true, true] (JW.jt (jw_or (jt_lt (je_callB (call_max2 rfl) v_max (by rfl) fx.n_max bt_max (ja_cons (je_v 1 (pv 1)) (ja_cons (je_v 2 (pv 2)) ja_nil))) (je_sub1 (je_v 0 (pv 0)) je_int)) (jw_or1 (jt_lt (je_callB (call_max2 rfl) v_max (by rfl) fx.n_max bt_max (ja_cons (je_sub (je_v 1 (pv 1)) (je_v 2 (pv 2))) (ja_cons (je_sub (je_v 2 (pv 2)) (je_v 1 (pv 1))) ja_nil))) (je_sub1 (je_v 0 (pv 0)) je_int))))) (jb_cons (js_ret (jm [false, false, false] je_str))
  jb_nil) jb_nil)
  (jb_cons (js_ret (jm [false, true, true] (je_ite (jt_gt (je_v 1 (pv 1)) (je_v 2 (pv 2))) je_str je_str)))
  jb_nil)) rfl

theorem ok__law_won (fx : Fx mg) {f : Addr} {fd : FuncData} (F : Fun K "_law_won" "_law_won" s__law_won f fd)
    (m : ∀ ds Q' E', ds.length = 3 → sp_law_won ds Q' E' → rd_law_won { nx := fun _ => Q' .non, rt := Q', ex := fun x _ => E' x } (startE ["race", "one", "two"] ds)) : FnT P w K mg base G 0 1 f fd ["race", "one", "two"] sp_law_won :=
  Fun.okT F sc__law_won fun cdv A outer s H E hr tk => ⟨_, der__law_won fx  hr tk, m⟩

abbrev s__law_played : Stmt := topS 27
theorem sc__law_played : FnScope ["laws_here", "who", "standing", "later", "at", "race", "one", "two"] ["laws_here", "who", "standing"] (defScope s__law_played) := ⟨rfl, rfl, rfl, by decide +kernel, rfl, by decide +kernel, by decide +kernel⟩

theorem der__law_played (fx : Fx mg) (c__law_won : CalT P w K mg base G "_law_won" 0 1 ["race", "one", "two"] sp_law_won) {cdv : Value} {f : Addr} {A : Around} {outer : List Env} {s : Shared} {H : Hp} {E : XK} {W : WX} (hr : RoomG 1 (A.deeper (envOfC "_law_played" (defScope s__law_played) s.heap.objs.size f cdv)))
    (tk : Takes (cxT P w K mg base ["laws_here", "who", "standing", "later", "at", "race", "one", "two"] "_law_played" s__law_played f cdv A outer s H E) W) :
    JB (cxT P w K mg base ["laws_here", "who", "standing", "later", "at", "race", "one", "two"] "_law_played" s__law_played f cdv A outer s H E) W G 0 (defBody s__law_played) rd_law_played :=
  JB.cost (jb_cons (js_set (i := 3) sc__law_played.nd rfl (by first | exact .inl rfl | exact .inr rfl) (jm [false, false, true, false, false, false, false, false] (je_callTy call_list_of v_list (by rfl) fx.n_list bt_list (ja_cons (je_v 2 (pv 2)) ja_nil))))
  (jb_cons (js_for 4611686018427387904 [true, false, false, false, false, false, false, false] (passes_of rfl) rfl (ji_enum (by rfl) fx.n_enumerate (ja_cons (je_v 0 (pv 0)) ja_nil)) (jg_tup rfl (jgs_cons (jg_name (pg_name (i := 4) sc__law_played.nd rfl (by first | exact .inl rfl | exact .inr rfl))) (jgs_cons (jg_name (pg_name (i := 5) sc__law_played.nd rfl (by first | exact .inl rfl | exact .inr rfl))) jgs_nil))) (jb_cons (js_asg (jm [false, false, false, true, true, false, false, false] (je_sub1 (je_v 3 (pv 3)) (je_v 4 (pv 4)))) (jg_tup rfl (jgs_cons (jg_name (pg_name (i := 6) sc__law_played.nd rfl (by first | exact .inl rfl | exact .inr rfl))) (jgs_cons (jg_name (pg_name (i := 7) sc__law_played.nd rfl (by first | exact .inl rfl | exact .inr rfl))) jgs_nil))))
  (jb_cons (js_putV (i := 3) (j := 4) (pv 3) (pv 4) (jm [false, true, false, false, false, false, true, true] (je_tup (ja_cons (je_add (je_v 6 (pv 6)) (je_callTy call_intS v_intS (by rfl) fx.n_int bt_int (ja_cons (je_eq hr.units (je_v 1 (pv 1)) je_str) ja_nil))) (ja_cons (je_add (je_v 7 (pv 7)) (je_callTy call_intS v_intS (by rfl) fx.n_int bt_int (ja_cons (je_eq hr.units (je_v 1 (pv 1)) je_str) ja_nil))) ja_nil)))))
  (jb_cons (js_if [false, false, false, true, true, true, false, false] (jt_eq hr.units (je_callT (ps := ["race", "one", "two"]) c__law_won hr (by decide) tk (by rfl) (ja_cons (je_v 5 (pv 5)) (ja_cons (je_sub1 (je_sub1 (je_v 3 (pv 3)) (je_v 4 (pv 4))) je_int) (ja_cons (je_sub1 (je_sub1 (je_v 3 (pv 3)) (je_v 4 (pv 4))) je_int) ja_nil)))) je_str) (jb_cons (js_ret (jm [false, false, false, true, false, false, false, false] (je_lst (ja_cons je_str (ja_cons (je_v 3 (pv 3)) ja_nil)))))
  jb_nil) jb_nil)
  (jb_cons (js_if [true, false, false, false, true, false, false, false] (jt_lt (je_add (je_v 4 (pv 4)) je_int) (je_callB call_len v_len (by rfl) fx.n_len bt_len (ja_cons (je_v 0 (pv 0)) ja_nil))) (jb_cons (js_putV (i := 3) (j := 4) (pv 3) (pv 4) (jm [false, false, false, false, false, false, false, false] (je_tup (ja_cons je_int (ja_cons je_int ja_nil)))))
  jb_nil) jb_nil)
  jb_nil)))))
  (jb_cons (js_ret (jm [false, true, false, true, false, false, false, false] (je_lst (ja_cons (je_v 1 (pv 1)) (ja_cons (je_v 3 (pv 3)) ja_nil)))))
  jb_nil))) rfl

theorem ok__law_played (fx : Fx mg) (c__law_won : CalT P w K mg base G "_law_won" 0 1 ["race", "one", "two"] sp_law_won) {f : Addr} {fd : FuncData} (F : Fun K "_law_played" "_law_played" s__law_played f fd)
    (m : ∀ ds Q' E', ds.length = 3 → sp_law_played ds Q' E' → rd_law_played { nx := fun _ => Q' .non, rt := Q', ex := fun x _ => E' x } (startE ["laws_here", "who", "standing", "later", "at", "race", "one", "two"] ds)) : FnT P w K mg base G 0 2 f fd ["laws_here", "who", "standing"] sp_law_played :=
  Fun.okT F sc__law_played fun cdv A outer s H E hr tk => ⟨_, der__law_played fx c__law_won hr tk, m⟩

abbrev s__law_state : Stmt := topS 28
theorem sc__law_state : FnScope ["laws_here", "line_here", "winner", "standing", "at", "who"] ["laws_here", "line_here"] (defScope s__law_state) := ⟨rfl, rfl, rfl, by decide +kernel, rfl, by decide +kernel, by decide +kernel⟩

theorem der__law_state (fx : Fx mg) (c__law_played : CalT P w K mg base G "_law_played" 0 2 ["laws_here", "who", "standing"] sp_law_played) {cdv : Value} {f : Addr} {A : Around} {outer : List Env} {s : Shared} {H : Hp} {E : XK} {W : WX} (hr : RoomG 2 (A.deeper (envOfC "_law_state" (defScope s__law_state) s.heap.objs.size f cdv)))
    (tk : Takes (cxT P w K mg base ["laws_here", "line_here", "winner", "standing", "at", "who"] "_law_state" s__law_state f cdv A outer s H E) W) :
    JB (cxT P w K mg base ["laws_here", "line_here", "winner", "standing", "at", "who"] "_law_state" s__law_state f cdv A outer s H E) W G 0 (defBody s__law_state) rd_law_state :=
  JB.cost (jb_cons (js_par (i := 2) (j := 3) [true, false, false, false, false, false] rfl sc__law_state.nd rfl rfl (by decide) rfl rfl (ja_cons je_str (ja_cons (je_mulX (je_lst (ja_cons (je_tup (ja_cons je_int (ja_cons je_int ja_nil))) ja_nil)) (je_callB call_len v_len (by rfl) fx.n_len bt_len (ja_cons (je_v 0 (pv 0)) ja_nil))) ja_nil)) rfl)
  (jb_cons (js_for 4611686018427387904 [false, true, false, false, false, false] (passes_of rfl) rfl (ji_enumT (by rfl) fx.n_enumerate (je_v 1 (pv 1))) (jg_tup rfl (jgs_cons (jg_name (pg_name (i := 4) sc__law_state.nd rfl (by first | exact .inl rfl | exact .inr rfl))) (jgs_cons (jg_name (pg_name (i := 5) sc__law_state.nd rfl (by first | exact .inl rfl | exact .inr rfl))) jgs_nil))) (jb_cons (js_asg (jm [true, false, false, true, false, true] (je_callT (ps := ["laws_here", "who", "standing"]) c__law_played hr (by decide) tk (by rfl) (ja_cons (je_v 0 (pv 0)) (ja_cons (je_v 5 (pv 5)) (ja_cons (je_v 3 (pv 3)) ja_nil))))) (jg_tupL rfl (jgs_cons (jg_name (pg_name (i := 2) sc__law_state.nd rfl (by first | exact .inl rfl | exact .inr rfl))) (jgs_cons (jg_name (pg_name (i := 3) sc__law_state.nd rfl (by first | exact .inl rfl | exact .inr rfl))) jgs_nil))))
  (jb_cons (js_if [false, false, true, false, false, false] (jt_ne hr.units (je_v 2 (pv 2)) je_str) (jb_cons (js_ret (jm [false, false, true, true, true, false] (je_lst (ja_cons (je_v 2 (pv 2)) (ja_cons (je_v 3 (pv 3)) (ja_cons (je_add (je_v 4 (pv 4)) je_int) ja_nil))))))
  jb_nil) jb_nil)
  jb_nil)))
  (jb_cons (js_ret (jm [false, true, true, true, false, false] (je_lst (ja_cons (je_v 2 (pv 2)) (ja_cons (je_v 3 (pv 3)) (ja_cons (je_callB call_len v_len (by rfl) fx.n_len bt_len (ja_cons (je_v 1 (pv 1)) ja_nil)) ja_nil))))))
  jb_nil))) rfl

theorem ok__law_state (fx : Fx mg) (c__law_played : CalT P w K mg base G "_law_played" 0 2 ["laws_here", "who", "standing"] sp_law_played) {f : Addr} {fd : FuncData} (F : Fun K "_law_state" "_law_state" s__law_state f fd)
    (m : ∀ ds Q' E', ds.length = 2 → sp_law_state ds Q' E' → rd_law_state { nx := fun _ => Q' .non, rt := Q', ex := fun x _ => E' x } (startE ["laws_here", "line_here", "winner", "standing", "at", "who"] ds)) : FnT P w K mg base G 0 3 f fd ["laws_here", "line_here"] sp_law_state :=
  Fun.okT F sc__law_state fun cdv A outer s H E hr tk => ⟨_, der__law_state fx c__law_played hr tk, m⟩

abbrev s__law_line : Stmt := topS 29
theorem sc__law_line : FnScope ["pool", "laws_here", "most", "found", "standing", "way", "turn", "who", "winner", "later"] ["pool", "laws_here", "most"] (defScope s__law_line) := ⟨rfl, rfl, rfl, by decide +kernel, rfl, by decide +kernel, by decide +kernel⟩

theorem der__law_line (fx : Fx mg) (c__law_draw : CalT P w K mg base G "_law_draw" 1 1 ["pool", "many"] spDraw) (c__law_played : CalT P w K mg base G "_law_played" 0 2 ["laws_here", "who", "standing"] sp_law_played) {cdv : Value} {f : Addr} {A : Around} {outer : List Env} {s : Shared} {H : Hp} {E : XK} {W : WX} (hr : RoomG 2 (A.deeper (envOfC "_law_line" (defScope s__law_line) s.heap.objs.size f cdv)))
    (tk : Takes (cxT P w K mg base ["pool", "laws_here", "most", "found", "standing", "way", "turn", "who", "winner", "later"] "_law_line" s__law_line f cdv A outer s H E) W) :
    JB (cxT P w K mg base ["pool", "laws_here", "most", "found", "standing", "way", "turn", "who", "winner", "later"] "_law_line" s__law_line f cdv A outer s H E) W G 1202 (defBody s__law_line) rd_law_line :=
  JB.cost (jb_cons (js_par3 (i := 3) (j := 4) (m := 5) [true, true, false, false, false, false, false, false, false, false] rfl sc__law_line.nd rfl rfl rfl (by decide) (by decide) (by decide) rfl rfl rfl (ja_cons je_str (ja_cons (je_mulX (je_lst (ja_cons (je_tup (ja_cons je_int (ja_cons je_int ja_nil))) ja_nil)) (je_callB call_len v_len (by rfl) fx.n_len bt_len (ja_cons (je_v 1 (pv 1)) ja_nil))) (ja_cons (je_callT (ps := ["pool", "many"]) c__law_draw hr (by decide) tk (by rfl) (ja_cons (je_v 0 (pv 0)) (ja_cons je_int ja_nil))) ja_nil))) rfl)
  (jb_cons (js_forR 400 [true, false, true, false, false, false, false, false, false, false] (passes_of rfl) rfl (jf_rng1 (by rfl) fx.n_range (ja_cons (je_callT (ps := ["pool", "many"]) c__law_draw hr (by decide) tk (by rfl) (ja_cons (je_v 0 (pv 0)) (ja_cons (je_add (je_v 2 (pv 2)) je_int) ja_nil))) ja_nil)) (jg_name (pg_name (i := 6) sc__law_line.nd rfl (by first | exact .inl rfl | exact .inr rfl))) (jb_cons (js_set (i := 7) sc__law_line.nd rfl (by first | exact .inl rfl | exact .inr rfl) (jm [true, false, false, false, false, true, true, false, false, false] (je_sub1 (je_lst (ja_cons (je_sub1 je_str (je_callT (ps := ["pool", "many"]) c__law_draw hr (by decide) tk (by rfl) (ja_cons (je_v 0 (pv 0)) (ja_cons je_int ja_nil)))) (ja_cons (je_sub1 je_str (je_mod (je_v 6 (pv 6)) je_int)) (ja_cons (je_sub1 je_str (je_callT (ps := ["pool", "many"]) c__law_draw hr (by decide) tk (by rfl) (ja_cons (je_v 0 (pv 0)) (ja_cons je_int ja_nil)))) (ja_cons (je_sub1 je_str (je_callT (ps := ["pool", "many"]) c__law_draw hr (by decide) tk (by rfl) (ja_cons (je_v 0 (pv 0)) (ja_cons je_int ja_nil)))) ja_nil))))) (je_v 5 (pv 5)))))
  (jb_cons (js_asg (jm [false, true, false, false, true, false, false, true, false, false] (je_callT (ps := ["laws_here", "who", "standing"]) c__law_played hr (by decide) tk (by rfl) (ja_cons (je_v 1 (pv 1)) (ja_cons (je_v 7 (pv 7)) (ja_cons (je_v 4 (pv 4)) ja_nil))))) (jg_tupL rfl (jgs_cons (jg_name (pg_name (i := 8) sc__law_line.nd rfl (by first | exact .inl rfl | exact .inr rfl))) (jgs_cons (jg_name (pg_name (i := 9) sc__law_line.nd rfl (by first | exact .inl rfl | exact .inr rfl))) jgs_nil))))
  (jb_cons (js_if [false, false, false, false, false, false, false, false, true, false] (jt_ne hr.units (je_v 8 (pv 8)) je_str) (jb_cons (js_set (i := 7) sc__law_line.nd rfl (by first | exact .inl rfl | exact .inr rfl) (jm [false, false, false, false, false, false, false, true, false, false] (je_menu (hu65 hr) (by decide) pe_str pe_str pe_str pe_str (je_v 7 (pv 7)))))
  (jb_cons (js_asg (jm [false, true, false, false, true, false, false, true, false, false] (je_callT (ps := ["laws_here", "who", "standing"]) c__law_played hr (by decide) tk (by rfl) (ja_cons (je_v 1 (pv 1)) (ja_cons (je_v 7 (pv 7)) (ja_cons (je_v 4 (pv 4)) ja_nil))))) (jg_tupL rfl (jgs_cons (jg_name (pg_name (i := 8) sc__law_line.nd rfl (by first | exact .inl rfl | exact .inr rfl))) (jgs_cons (jg_name (pg_name (i := 9) sc__law_line.nd rfl (by first | exact .inl rfl | exact .inr rfl))) jgs_nil))))
  (jb_cons (js_if [false, false, false, false, false, false, false, false, true, false] (jt_ne hr.units (je_v 8 (pv 8)) je_str) (jb_cons (js_ret (jm_mv 3 (pv 3)))
  jb_nil) jb_nil)
  jb_nil))) jb_nil)
  (jb_cons (js_par (i := 3) (j := 4) [false, false, false, true, false, false, false, true, false, true] rfl sc__law_line.nd rfl rfl (by decide) rfl rfl (ja_cons (je_add (je_v 3 (pv 3)) (je_v 7 (pv 7))) (ja_cons (je_v 9 (pv 9)) ja_nil)) rfl)
  jb_nil)))))
  (jb_cons (js_ret (jm_mv 3 (pv 3)))
  jb_nil))) rfl

theorem ok__law_line (fx : Fx mg) (c__law_draw : CalT P w K mg base G "_law_draw" 1 1 ["pool", "many"] spDraw) (c__law_played : CalT P w K mg base G "_law_played" 0 2 ["laws_here", "who", "standing"] sp_law_played) {f : Addr} {fd : FuncData} (F : Fun K "_law_line" "_law_line" s__law_line f fd)
    (m : ∀ ds Q' E', ds.length = 3 → sp_law_line ds Q' E' → rd_law_line { nx := fun _ => Q' .non, rt := Q', ex := fun x _ => E' x } (startE ["pool", "laws_here", "most", "found", "standing", "way", "turn", "who", "winner", "later"] ds)) : FnT P w K mg base G 1202 3 f fd ["pool", "laws_here", "most"] sp_law_line :=
  Fun.okT F sc__law_line fun cdv A outer s H E hr tk => ⟨_, der__law_line fx c__law_draw c__law_played hr tk, m⟩

abbrev s__law_lined : Stmt := topS 30
theorem sc__law_lined : FnScope ["laws_here", "line_here", "height", "found", "standing", "open_here", "who", "ended", "race", "pair", "one", "two"] ["laws_here", "line_here", "height"] (defScope s__law_lined) := ⟨rfl, rfl, rfl, by decide +kernel, rfl, by decide +kernel, by decide +kernel⟩

theorem der__law_lined (fx : Fx mg) (c__law_played : CalT P w K mg base G "_law_played" 0 2 ["laws_here", "who", "standing"] sp_law_played) (c__law_won : CalT P w K mg base G "_law_won" 0 1 ["race", "one", "two"] sp_law_won) {cdv : Value} {f : Addr} {A : Around} {outer : List Env} {s : Shared} {H : Hp} {E : XK} {W : WX} (hr : RoomG 2 (A.deeper (envOfC "_law_lined" (defScope s__law_lined) s.heap.objs.size f cdv)))
    (tk : Takes (cxT P w K mg base ["laws_here", "line_here", "height", "found", "standing", "open_here", "who", "ended", "race", "pair", "one", "two"] "_law_lined" s__law_lined f cdv A outer s H E) W) :
    JB (cxT P w K mg base ["laws_here", "line_here", "height", "found", "standing", "open_here", "who", "ended", "race", "pair", "one", "two"] "_law_lined" s__law_lined f cdv A outer s H E) W G 0 (defBody s__law_lined) rd_law_lined :=
  JB.cost (jb_cons (js_par (i := 3) (j := 4) [true, false, false, false, false, false, false, false, false, false, false, false] rfl sc__law_lined.nd rfl rfl (by decide) rfl rfl (ja_cons (je_lst ja_nil) (ja_cons (je_mulX (je_lst (ja_cons (je_tup (ja_cons je_int (ja_cons je_int ja_nil))) ja_nil)) (je_callB call_len v_len (by rfl) fx.n_len bt_len (ja_cons (je_v 0 (pv 0)) ja_nil))) ja_nil)) rfl)
  (jb_cons (js_set (i := 5) sc__law_lined.nd rfl (by first | exact .inl rfl | exact .inr rfl) (jm [false, false, false, false, false, false, false, false, false, false, false, false] (je_tup (ja_cons je_int (ja_cons je_int ja_nil)))))
  (jb_cons (js_for 4611686018427387904 [false, true, false, false, false, false, false, false, false, false, false, false] (passes_of rfl) rfl (ji_any (je_v 1 (pv 1))) (jg_name (pg_name (i := 6) sc__law_lined.nd rfl (by first | exact .inl rfl | exact .inr rfl))) (jb_cons (js_set (i := 7) sc__law_lined.nd rfl (by first | exact .inl rfl | exact .inr rfl) (jm [false, false, false, false, false, false, false, false, false, false, false, false] je_int))
  (jb_cons (js_for 4611686018427387904 [true, false, true, false, true, false, false, false, false, false, false, false] (passes_of rfl) rfl (ji_zip (by rfl) fx.n_zip (ja_cons (je_slHiZ (je_v 0 (pv 0)) (je_v 2 (pv 2))) (ja_cons (je_v 4 (pv 4)) ja_nil))) (jg_tup rfl (jgs_cons (jg_name (pg_name (i := 8) sc__law_lined.nd rfl (by first | exact .inl rfl | exact .inr rfl))) (jgs_cons (jg_name (pg_name (i := 9) sc__law_lined.nd rfl (by first | exact .inl rfl | exact .inr rfl))) jgs_nil))) (jb_cons (js_par (i := 10) (j := 11) [false, false, false, false, false, false, true, false, false, true, false, false] rfl sc__law_lined.nd rfl rfl (by decide) rfl rfl (ja_cons (je_add (je_sub1 (je_v 9 (pv 9)) je_int) (je_callTy call_intS v_intS (by rfl) fx.n_int bt_int (ja_cons (je_eq hr.units (je_v 6 (pv 6)) je_str) ja_nil))) (ja_cons (je_add (je_sub1 (je_v 9 (pv 9)) je_int) (je_callTy call_intS v_intS (by rfl) fx.n_int bt_int (ja_cons (je_eq hr.units (je_v 6 (pv 6)) je_str) ja_nil))) ja_nil)) rfl)
  (jb_cons (js_if [false, false, false, false, false, false, false, true, true, false, true, true] (JW.jt (jw_and (jt_ge (je_v 7 (pv 7)) je_int) (jw_and1 (jt_ne hr.units (je_callT (ps := ["race", "one", "two"]) c__law_won hr (by decide) tk (by rfl) (ja_cons (je_v 8 (pv 8)) (ja_cons (je_v 10 (pv 10)) (ja_cons (je_v 11 (pv 11)) ja_nil)))) je_str)))) (jb_cons (js_set (i := 7) sc__law_lined.nd rfl (by first | exact .inl rfl | exact .inr rfl) (jm [false, false, false, false, false, false, false, true, false, false, false, false] (je_add (je_v 7 (pv 7)) je_int)))
  jb_nil) (jb_cons (js_set (i := 7) sc__law_lined.nd rfl (by first | exact .inl rfl | exact .inr rfl) (jm [false, false, false, false, false, false, false, false, false, false, false, false] (je_neg je_int)))
  jb_nil))
  jb_nil)))
  (jb_cons (js_if [false, false, true, false, false, false, false, true, false, false, false, false] (jt_eq hr.units (je_v 7 (pv 7)) (je_v 2 (pv 2))) (jb_cons (js_asg (jm [false, false, true, false, true, false, false, false, false, false, false, false] (je_sub1 (je_v 4 (pv 4)) (je_v 2 (pv 2)))) (jg_tup rfl (jgs_cons (jg_name (pg_name (i := 10) sc__law_lined.nd rfl (by first | exact .inl rfl | exact .inr rfl))) (jgs_cons (jg_name (pg_name (i := 11) sc__law_lined.nd rfl (by first | exact .inl rfl | exact .inr rfl))) jgs_nil))))
  (jb_cons (js_set (i := 5) sc__law_lined.nd rfl (by first | exact .inl rfl | exact .inr rfl) (jm [false, false, false, false, false, false, true, false, false, false, true, true] (je_tup (ja_cons (je_add (je_v 10 (pv 10)) (je_callTy call_intS v_intS (by rfl) fx.n_int bt_int (ja_cons (je_eq hr.units (je_v 6 (pv 6)) je_str) ja_nil))) (ja_cons (je_add (je_v 11 (pv 11)) (je_callTy call_intS v_intS (by rfl) fx.n_int bt_int (ja_cons (je_eq hr.units (je_v 6 (pv 6)) je_str) ja_nil))) ja_nil)))))
  (jb_cons (js_if [true, false, true, false, false, true, false, false, false, false, false, false] (jt_ne hr.units (je_callT (ps := ["race", "one", "two"]) c__law_won hr (by decide) tk (by rfl) (ja_cons (je_sub1 (je_v 0 (pv 0)) (je_v 2 (pv 2))) (ja_cons (je_sub1 (je_v 5 (pv 5)) je_int) (ja_cons (je_sub1 (je_v 5 (pv 5)) je_int) ja_nil)))) je_str) (jb_cons (js_append (i := 3) (pv 3) (jm [false, false, false, false, false, true, false, false, false, false, false, false] (je_v 5 (pv 5))))
  (jb_cons (js_set (i := 5) sc__law_lined.nd rfl (by first | exact .inl rfl | exact .inr rfl) (jm [false, false, false, false, false, false, false, false, false, false, false, false] (je_tup (ja_cons je_int (ja_cons je_int ja_nil)))))
  jb_nil)) jb_nil)
  jb_nil))) jb_nil)
  (jb_cons (js_set (i := 4) sc__law_lined.nd rfl (by first | exact .inl rfl | exact .inr rfl) (jm [true, false, false, false, true, false, true, false, false, false, false, false] (je_sub1 (je_callT (ps := ["laws_here", "who", "standing"]) c__law_played hr (by decide) tk (by rfl) (ja_cons (je_v 0 (pv 0)) (ja_cons (je_v 6 (pv 6)) (ja_cons (je_v 4 (pv 4)) ja_nil)))) je_int)))
  jb_nil)))))
  (jb_cons (js_ret (jm [false, false, false, true, false, true, false, false, false, false, false, false] (je_add (je_v 3 (pv 3)) (je_mulX (je_lst (ja_cons (je_v 5 (pv 5)) ja_nil)) (je_callTy call_intS v_intS (by rfl) fx.n_int bt_int (ja_cons (je_ne hr.units (je_v 5 (pv 5)) (je_tup (ja_cons je_int (ja_cons je_int ja_nil)))) ja_nil))))))
  jb_nil)))) rfl

theorem ok__law_lined (fx : Fx mg) (c__law_played : CalT P w K mg base G "_law_played" 0 2 ["laws_here", "who", "standing"] sp_law_played) (c__law_won : CalT P w K mg base G "_law_won" 0 1 ["race", "one", "two"] sp_law_won) {f : Addr} {fd : FuncData} (F : Fun K "_law_lined" "_law_lined" s__law_lined f fd)
    (m : ∀ ds Q' E', ds.length = 3 → sp_law_lined ds Q' E' → rd_law_lined { nx := fun _ => Q' .non, rt := Q', ex := fun x _ => E' x } (startE ["laws_here", "line_here", "height", "found", "standing", "open_here", "who", "ended", "race", "pair", "one", "two"] ds)) : FnT P w K mg base G 0 3 f fd ["laws_here", "line_here", "height"] sp_law_lined :=
  Fun.okT F sc__law_lined fun cdv A outer s H E hr tk => ⟨_, der__law_lined fx c__law_played c__law_won hr tk, m⟩

abbrev s__law_match : Stmt := topS 31
theorem sc__law_match : FnScope ["pool", "laws_here", "most", "line_here", "way", "winner", "standing", "who", "turn"] ["pool", "laws_here", "most"] (defScope s__law_match) := ⟨rfl, rfl, rfl, by decide +kernel, rfl, by decide +kernel, by decide +kernel⟩

theorem der__law_match (fx : Fx mg) (c__law_draw : CalT P w K mg base G "_law_draw" 1 1 ["pool", "many"] spDraw) (c__law_line : CalT P w K mg base G "_law_line" 1202 3 ["pool", "laws_here", "most"] sp_law_line) (c__law_played : CalT P w K mg base G "_law_played" 0 2 ["laws_here", "who", "standing"] sp_law_played) (c__law_state : CalT P w K mg base G "_law_state" 0 3 ["laws_here", "line_here"] sp_law_state) {cdv : Value} {f : Addr} {A : Around} {outer : List Env} {s : Shared} {H : Hp} {E : XK} {W : WX} (hr : RoomG 3 (A.deeper (envOfC "_law_match" (defScope s__law_match) s.heap.objs.size f cdv)))
    (tk : Takes (cxT P w K mg base ["pool", "laws_here", "most", "line_here", "way", "winner", "standing", "who", "turn"] "_law_match" s__law_match f cdv A outer s H E) W) :
    JB (cxT P w K mg base ["pool", "laws_here", "most", "line_here", "way", "winner", "standing", "who", "turn"] "_law_match" s__law_match f cdv A outer s H E) W G 4204 (defBody s__law_match) rd_law_match :=
  JB.cost (jb_cons (js_par3 (i := 3) (j := 4) (m := 5) [true, true, true, false, false, false, false, false, false] rfl sc__law_match.nd rfl rfl rfl (by decide) (by decide) (by decide) rfl rfl rfl (ja_cons (je_callT (ps := ["pool", "laws_here", "most"]) c__law_line hr (by decide) tk (by rfl) (ja_cons (je_v 0 (pv 0)) (ja_cons (je_v 1 (pv 1)) (ja_cons (je_v 2 (pv 2)) ja_nil)))) (ja_cons (je_callT (ps := ["pool", "many"]) c__law_draw hr (by decide) tk (by rfl) (ja_cons (je_v 0 (pv 0)) (ja_cons je_int ja_nil))) (ja_cons je_str ja_nil))) rfl)
  (jb_cons (js_par (i := 6) (j := 7) [true, true, false, true, false, false, false, false, false] rfl sc__law_match.nd rfl rfl (by decide) rfl rfl (ja_cons (je_sub1 (je_callT (ps := ["laws_here", "line_here"]) c__law_state hr (by decide) tk (by rfl) (ja_cons (je_v 1 (pv 1)) (ja_cons (je_v 3 (pv 3)) ja_nil))) je_int) (ja_cons (je_sub1 je_str (je_callT (ps := ["pool", "many"]) c__law_draw hr (by decide) tk (by rfl) (ja_cons (je_v 0 (pv 0)) (ja_cons je_int ja_nil)))) ja_nil)) rfl)
  (jb_cons (js_forR 3000 [false, false, false, false, false, false, false, false, false] (passes_of rfl) rfl (jf_rng1 (by rfl) fx.n_range (ja_cons je_int ja_nil)) (jg_name (pg_name (i := 8) sc__law_match.nd rfl (by first | exact .inl rfl | exact .inr rfl))) (jb_cons (js_if [false, false, false, false, true, false, false, false, true] (JW.jt (jw_and (jt_eq hr.units (je_v 4 (pv 4)) je_int) (jw_and1 (jt_lt (je_v 8 (pv 8)) je_int)))) (jb_cons (js_set (i := 7) sc__law_match.nd rfl (by first | exact .inl rfl | exact .inr rfl) (jm [true, false, false, false, false, false, false, false, false] (je_sub1 je_str (je_callT (ps := ["pool", "many"]) c__law_draw hr (by decide) tk (by rfl) (ja_cons (je_v 0 (pv 0)) (ja_cons je_int ja_nil))))))
  jb_nil) jb_nil)
  (jb_cons (js_if [false, false, false, false, true, false, false, false, true] (JW.jt (jw_and (jt_eq hr.units (je_v 4 (pv 4)) je_int) (jw_and1 (jt_lt (je_v 8 (pv 8)) je_int)))) (jb_cons (js_set (i := 7) sc__law_match.nd rfl (by first | exact .inl rfl | exact .inr rfl) (jm [false, false, false, false, false, false, false, false, true] (je_sub1 je_str (je_mod (je_v 8 (pv 8)) je_int))))
  jb_nil) jb_nil)
  (jb_cons (js_asg (jm [false, true, false, false, false, false, true, true, false] (je_callT (ps := ["laws_here", "who", "standing"]) c__law_played hr (by decide) tk (by rfl) (ja_cons (je_v 1 (pv 1)) (ja_cons (je_v 7 (pv 7)) (ja_cons (je_v 6 (pv 6)) ja_nil))))) (jg_tupL rfl (jgs_cons (jg_name (pg_name (i := 5) sc__law_match.nd rfl (by first | exact .inl rfl | exact .inr rfl))) (jgs_cons (jg_name (pg_name (i := 6) sc__law_match.nd rfl (by first | exact .inl rfl | exact .inr rfl))) jgs_nil))))
  (jb_cons (js_set (i := 3) sc__law_match.nd rfl (by first | exact .inl rfl | exact .inr rfl) (jm [false, false, false, true, false, false, false, true, false] (je_add (je_v 3 (pv 3)) (je_v 7 (pv 7)))))
  (jb_cons (js_if [false, false, false, false, false, true, false, false, false] (jt_ne hr.units (je_v 5 (pv 5)) je_str) (jb_cons (js_ret (jm_mv 3 (pv 3)))
  jb_nil) jb_nil)
  jb_nil))))))
  (jb_cons (js_ret (jm_mv 3 (pv 3)))
  jb_nil)))) rfl

theorem ok__law_match (fx : Fx mg) (c__law_draw : CalT P w K mg base G "_law_draw" 1 1 ["pool", "many"] spDraw) (c__law_line : CalT P w K mg base G "_law_line" 1202 3 ["pool", "laws_here", "most"] sp_law_line) (c__law_played : CalT P w K mg base G "_law_played" 0 2 ["laws_here", "who", "standing"] sp_law_played) (c__law_state : CalT P w K mg base G "_law_state" 0 3 ["laws_here", "line_here"] sp_law_state) {f : Addr} {fd : FuncData} (F : Fun K "_law_match" "_law_match" s__law_match f fd)
    (m : ∀ ds Q' E', ds.length = 3 → sp_law_match ds Q' E' → rd_law_match { nx := fun _ => Q' .non, rt := Q', ex := fun x _ => E' x } (startE ["pool", "laws_here", "most", "line_here", "way", "winner", "standing", "who", "turn"] ds)) : FnT P w K mg base G 4204 4 f fd ["pool", "laws_here", "most"] sp_law_match :=
  Fun.okT F sc__law_match fun cdv A outer s H E hr tk => ⟨_, der__law_match fx c__law_draw c__law_line c__law_played c__law_state hr tk, m⟩

abbrev s__law_right : Stmt := topS 32
theorem sc__law_right : FnScope ["laws_here", "line_here", "kept", "height", "due", "told"] ["laws_here", "line_here"] (defScope s__law_right) := ⟨rfl, rfl, rfl, by decide +kernel, rfl, by decide +kernel, by decide +kernel⟩

theorem der__law_right (fx : Fx mg) (c__law_lined : CalT P w K mg base G "_law_lined" 0 3 ["laws_here", "line_here", "height"] sp_law_lined) (c_lines_of : CalT P w K mg base G "lines_of" 0 6 ["rule", "points", "level"] sp_lines_of) (cK_lines_of : CalK P w K mg base G "lines_of" 0 6 ["rule", "points", "level"] ["level", "points", "rule"] [2, 1, 0] sp_lines_of) {cdv : Value} {f : Addr} {A : Around} {outer : List Env} {s : Shared} {H : Hp} {E : XK} {W : WX} (hr : RoomG 6 (A.deeper (envOfC "_law_right" (defScope s__law_right) s.heap.objs.size f cdv)))
    (tk : Takes (cxT P w K mg base ["laws_here", "line_here", "kept", "height", "due", "told"] "_law_right" s__law_right f cdv A outer s H E) W) :
    JB (cxT P w K mg base ["laws_here", "line_here", "kept", "height", "due", "told"] "_law_right" s__law_right f cdv A outer s H E) W G 0 (defBody s__law_right) rd_law_right :=
  JB.cost (jb_cons (js_set (i := 2) sc__law_right.nd rfl (by first | exact .inl rfl | exact .inr rfl) (jm [true, true, false, false, false, false] (je_callB (call_reprG hr.gd (hu65 hr)) v_reprG (by rfl) fx.n_repr bt_repr (ja_cons (je_lst (ja_cons (je_v 0 (pv 0)) (ja_cons (je_v 1 (pv 1)) ja_nil))) ja_nil))))
  (jb_cons (js_forR 4611686018427387904 [true, false, false, false, false, false] (passes_of rfl) rfl (jf_rng1 (by rfl) fx.n_range (ja_cons (je_callB call_len v_len (by rfl) fx.n_len bt_len (ja_cons (je_v 0 (pv 0)) ja_nil)) ja_nil)) (jg_name (pg_name (i := 3) sc__law_right.nd rfl (by first | exact .inl rfl | exact .inr rfl))) (jb_cons (js_set (i := 4) sc__law_right.nd rfl (by first | exact .inl rfl | exact .inr rfl) (jm [true, true, false, true, false, false] (je_callT (ps := ["laws_here", "line_here", "height"]) c__law_lined hr (by decide) tk (by rfl) (ja_cons (je_v 0 (pv 0)) (ja_cons (je_v 1 (pv 1)) (ja_cons (je_v 3 (pv 3)) ja_nil))))))
  (jb_cons (js_set (i := 5) sc__law_right.nd rfl (by first | exact .inl rfl | exact .inr rfl) (jm [true, true, false, true, false, false] (je_callT (ps := ["rule", "points", "level"]) c_lines_of hr (by decide) tk (by rfl) (ja_cons (je_v 0 (pv 0)) (ja_cons (je_v 1 (pv 1)) (ja_cons (je_v 3 (pv 3)) ja_nil))))))
  (jb_cons (js_if [true, true, false, true, true, true] (jt_ne hr.units (je_callB (call_reprG hr.gd (hu65 hr)) v_reprG (by rfl) fx.n_repr bt_repr (ja_cons (je_lst (ja_cons (je_v 5 (pv 5)) (ja_cons (je_callKT cK_lines_of hr (by decide) tk (by rfl) (jk_cons (je_v 3 (pv 3)) (jk_cons (je_v 1 (pv 1)) (jk_cons (je_v 0 (pv 0)) jk_nil)))) ja_nil))) ja_nil)) (je_callB (call_reprG hr.gd (hu65 hr)) v_reprG (by rfl) fx.n_repr bt_repr (ja_cons (je_lst (ja_cons (je_v 4 (pv 4)) (ja_cons (je_v 4 (pv 4)) ja_nil))) ja_nil))) (jb_cons (js_ret (jm [false, false, false, false, false, false] je_bl))
  jb_nil) jb_nil)
  (jb_cons (js_append (i := 5) (pv 5) (jm [false, false, false, false, false, false] (je_tup (ja_cons je_int (ja_cons je_int ja_nil)))))
  (jb_cons (js_if [true, true, false, true, true, false] (jt_ne hr.units (je_callT (ps := ["rule", "points", "level"]) c_lines_of hr (by decide) tk (by rfl) (ja_cons (je_v 0 (pv 0)) (ja_cons (je_v 1 (pv 1)) (ja_cons (je_v 3 (pv 3)) ja_nil)))) (je_v 4 (pv 4))) (jb_cons (js_ret (jm [false, false, false, false, false, false] je_bl))
  jb_nil) jb_nil)
  jb_nil))))))
  (jb_cons (js_ret (jm [true, true, true, false, false, false] (je_eq hr.units (je_callB (call_reprG hr.gd (hu65 hr)) v_reprG (by rfl) fx.n_repr bt_repr (ja_cons (je_lst (ja_cons (je_v 0 (pv 0)) (ja_cons (je_v 1 (pv 1)) ja_nil))) ja_nil)) (je_v 2 (pv 2)))))
  jb_nil))) rfl

theorem ok__law_right (fx : Fx mg) (c__law_lined : CalT P w K mg base G "_law_lined" 0 3 ["laws_here", "line_here", "height"] sp_law_lined) (c_lines_of : CalT P w K mg base G "lines_of" 0 6 ["rule", "points", "level"] sp_lines_of) (cK_lines_of : CalK P w K mg base G "lines_of" 0 6 ["rule", "points", "level"] ["level", "points", "rule"] [2, 1, 0] sp_lines_of) {f : Addr} {fd : FuncData} (F : Fun K "_law_right" "_law_right" s__law_right f fd)
    (m : ∀ ds Q' E', ds.length = 2 → sp_law_right ds Q' E' → rd_law_right { nx := fun _ => Q' .non, rt := Q', ex := fun x _ => E' x } (startE ["laws_here", "line_here", "kept", "height", "due", "told"] ds)) : FnT P w K mg base G 0 7 f fd ["laws_here", "line_here"] sp_law_right :=
  Fun.okT F sc__law_right fun cdv A outer s H E hr tk => ⟨_, der__law_right fx c__law_lined c_lines_of cK_lines_of hr tk, m⟩

abbrev s_law : Stmt := topS 33
theorem sc_law : FnScope ["script", "at", "pool", "turn", "laws_here", "some", "line_here"] ["script"] (defScope s_law) := ⟨rfl, rfl, rfl, by decide +kernel, rfl, by decide +kernel, by decide +kernel⟩

theorem der_law (fx : Fx mg) {fP : Addr} {fdP : FuncData} (FP : FnOk P w K mg base (L2.CX P w) 1 fP fdP ["script", "at"] (spPool K)) (mP : mg "_law_pool" = some (.ref fP)) (kP : PySem.W.keepIn K (.ref fP) = true) (bP : Binds K fdP ["script", "at"] []) (p__law_line : ∀ b : Addr, CalT P w K mg base (some (.three, b, b)) "_law_line" 1202 3 ["pool", "laws_here", "most"] sp_law_line) (p__law_match : ∀ b : Addr, CalT P w K mg base (some (.three, b, b)) "_law_match" 4204 4 ["pool", "laws_here", "most"] sp_law_match) (p__law_right : ∀ b : Addr, CalT P w K mg base (some (.three, b, b)) "_law_right" 0 7 ["laws_here", "line_here"] sp_law_right) (p__law_rule : ∀ b : Addr, CalT P w K mg base (some (.three, b, b)) "_law_rule" 13 2 ["pool", "levels", "product"] sp_law_rule) (c_lines_of : CalT P w K mg base none "lines_of" 0 6 ["rule", "points", "level"] sp_lines_of) {cdv : Value} {f : Addr} {A : Around} {outer : List Env} {s : Shared} {H : Hp} {E : XK} {W : WX} (hr : RoomG 7 (A.deeper (envOfC "law" (defScope s_law) s.heap.objs.size f cdv)))
    (tk : Takes (cxT P w K mg base ["script", "at", "pool", "turn", "laws_here", "some", "line_here"] "law" s_law f cdv A outer s H E) W) :
    JB (cxT P w K mg base ["script", "at", "pool", "turn", "laws_here", "some", "line_here"] "law" s_law f cdv A outer s H E) W none 162570 (defBody s_law) rd_law :=
  JB.cost (jb_cons (js_forR 6 [true, false, false, false, false, false, false] (passes_of rfl) rfl (jf_rng1 (by rfl) fx.n_range (ja_cons (je_callB (call_max2 rfl) v_max (by rfl) fx.n_max bt_max (ja_cons je_int (ja_cons (je_callB (call_min2 rfl) v_min (by rfl) fx.n_min bt_min (ja_cons je_int (ja_cons (je_callB call_len v_len (by rfl) fx.n_len bt_len (ja_cons (je_v 0 (pv 0)) ja_nil)) ja_nil))) ja_nil))) ja_nil)) (jg_name (pg_name (i := 1) sc_law.nd rfl (by first | exact .inl rfl | exact .inr rfl))) (jb_pool (i := 2) (i0 := 0) (i1 := 1) FP hr (by decide) tk (by rfl) mP kP bP sc_law.nd rfl (by first | exact .inl rfl | exact .inr rfl) (pv 0) (pv 1) (fun b => (jb_cons (js_forR 5 [false, false, false, false, false, false, false] (passes_of rfl) rfl (jf_rng1 (by rfl) fx.n_range (ja_cons je_int ja_nil)) (jg_name (pg_name (i := 3) sc_law.nd rfl (by first | exact .inl rfl | exact .inr rfl))) (jb_cons (js_set (i := 4) sc_law.nd rfl (by first | exact .inl rfl | exact .inr rfl) (jm [false, false, true, false, false, false, false] (je_callT (ps := ["pool", "levels", "product"]) (p__law_rule b) hr (by decide) tk (by rfl) (ja_cons (je_v 2 (pv 2)) (ja_cons je_int (ja_cons je_int ja_nil))))))
  (jb_cons (js_set (i := 5) sc_law.nd rfl (by first | exact .inl rfl | exact .inr rfl) (jm [false, false, true, true, true, false, false] (je_lst (ja_cons (je_callT (ps := ["pool", "laws_here", "most"]) (p__law_line b) hr (by decide) tk (by rfl) (ja_cons (je_v 2 (pv 2)) (ja_cons (je_v 4 (pv 4)) (ja_cons (je_sub1 (je_lst (ja_cons je_int (ja_cons je_int ja_nil))) (je_mod (je_v 3 (pv 3)) je_int)) ja_nil)))) (ja_cons (je_callT (ps := ["pool", "laws_here", "most"]) (p__law_match b) hr (by decide) tk (by rfl) (ja_cons (je_v 2 (pv 2)) (ja_cons (je_v 4 (pv 4)) (ja_cons je_int ja_nil)))) ja_nil)))))
  (jb_cons (js_if [false, false, false, false, true, true, false] (jt_ne hr.units (je_lc (own := [("line_here", 6)]) (ks := [6]) [false, false, false, false, false, false, true] 4611686018427387904 rfl sc_law.nd (ji_any (je_v 5 (pv 5))) (blkOk_by (by kernel_rfl)) (by decide) (by decide) (fun _ _ _ _ _ => (jg_name (pg_name (i := 6) sc_law.nd rfl (by first | exact .inl rfl | exact .inr rfl)))) (fun _ _ _ _ _ => pts_one (jt_not (jt_e (je_callT (ps := ["laws_here", "line_here"]) (p__law_right b) hr (by decide) takes0 (by rfl) (ja_cons (je_v 4 (pv 4)) (ja_cons (je_v 6 (pv 6)) ja_nil)))))) (fun _ _ _ _ _ => (je_v 6 (pv 6)))) (je_lst ja_nil)) (jb_cons (js_ret (jm [false, false, false, false, false, false, false] je_bl))
  jb_nil) jb_nil)
  jb_nil))))
  jb_nil))))
  (jb_cons (js_ret (jm [false, false, false, false, false, false, false] (je_eq hr.units (je_callT (ps := ["rule", "points", "level"]) c_lines_of hr (by decide) tk (by rfl) (ja_cons (je_lst (ja_cons (je_tup (ja_cons je_int (ja_cons je_int ja_nil))) (ja_cons (je_tup (ja_cons je_int (ja_cons je_int ja_nil))) ja_nil))) (ja_cons je_str (ja_cons je_int ja_nil)))) (je_lst (ja_cons (je_tup (ja_cons je_int (ja_cons je_int ja_nil))) (ja_cons (je_tup (ja_cons je_int (ja_cons je_int ja_nil))) (ja_cons (je_tup (ja_cons je_int (ja_cons je_int ja_nil))) ja_nil)))))))
  jb_nil)) rfl

theorem ok_law (fx : Fx mg) {fP : Addr} {fdP : FuncData} (FP : FnOk P w K mg base (L2.CX P w) 1 fP fdP ["script", "at"] (spPool K)) (mP : mg "_law_pool" = some (.ref fP)) (kP : PySem.W.keepIn K (.ref fP) = true) (bP : Binds K fdP ["script", "at"] []) (p__law_line : ∀ b : Addr, CalT P w K mg base (some (.three, b, b)) "_law_line" 1202 3 ["pool", "laws_here", "most"] sp_law_line) (p__law_match : ∀ b : Addr, CalT P w K mg base (some (.three, b, b)) "_law_match" 4204 4 ["pool", "laws_here", "most"] sp_law_match) (p__law_right : ∀ b : Addr, CalT P w K mg base (some (.three, b, b)) "_law_right" 0 7 ["laws_here", "line_here"] sp_law_right) (p__law_rule : ∀ b : Addr, CalT P w K mg base (some (.three, b, b)) "_law_rule" 13 2 ["pool", "levels", "product"] sp_law_rule) (c_lines_of : CalT P w K mg base none "lines_of" 0 6 ["rule", "points", "level"] sp_lines_of) {f : Addr} {fd : FuncData} (F : Fun K "law" "law" s_law f fd)
    (m : ∀ ds Q' E', ds.length = 1 → sp_law ds Q' E' → rd_law { nx := fun _ => Q' .non, rt := Q', ex := fun x _ => E' x } (startE ["script", "at", "pool", "turn", "laws_here", "some", "line_here"] ds)) : FnT P w K mg base none 162570 8 f fd ["script"] sp_law :=
  Fun.okT F sc_law fun cdv A outer s H E hr tk => ⟨_, der_law fx FP mP kP bP p__law_line p__law_match p__law_right p__law_rule c_lines_of hr tk, m⟩
end
end My

set_option Elab.async false
set_option linter.all false
set_option maxRecDepth 100000
set_option maxHeartbeats 2000000
namespace My
open PySem PySem.Spec PyProof.Rows L2 TT
local macro_rules | `(tactic| walk_at "rd") => `(tactic| simp only [rSeq, rRet, rMs0, rMs1, gAscii, gDigit, gSplit, gPart, gJoin, isS, gStrI, gIntS, gFmt, rFs3, gS, rOf, rvAnd, rvOr, rvNot, TT.r1, r2, rL, rCons, rNil, rVar, rK, r3, mask, frz, frzL, frzS, gLen, gEq, gNe, sm, smL, gTru, gIx, gLt, gLe, gGt, gGe, TT.gSub, gMod, gDiv, gPow, gNeg, gMul, gAdd, gII, gBl, aft, ow, owL, rAsg, gNm, gTp, gsCons, gsNil, rPar, rIfS, rtNot, rtAnd, rtOr, rTru, rtC, rCall, rCallK, rTupE, rLstE, rNext, rNever, rDrop, rMv, rIte, gMin2, gMax2, gMinL, gMaxL, gMm, gII1, gInt1, rRaise, gVal, rAugI, rPut, ixV, rDPut, ixD, gDIn, gDGet, gDisp1, riEnu, iEnu, gSlLo, gSlHi, rErr, rIsErrE, rErrVE, gErrV, rExtS, gReprA, gReprW, gMulX, gSlLoX, gSlHiX, gSgn, rAugX, rAugL, rAugN, riEnuT, iEnuT, gSIx, gSlHiZ, gList, gTuple,  gIsX, rMt1, isL, gLCnt, gLIx, rAppN, List.length_map, rLc, blkE, rtYes, rBrk, rCont, Option.some_inj, gAbs, gIsN, gNotN, gIn, TT.isNon, rForR, rFor, riR1, riR2, riAny, iRg1, iRg2, iAny, rAppS, pmt, List.filterMap_cons, List.filterMap_nil, List.getElem?_cons_zero, List.getElem?_cons_succ, List.length_cons, List.length_nil, List.set_cons_zero, List.set_cons_succ, Option.map_some, Option.map_none, atI_0, atI_1, atI_2, deq_int, deq_bl, deq_str, deq_non, Bool.not_true, Bool.not_false, true_and, and_true, Bool.and_true, Bool.true_and, Nat.reduceAdd, Int.cast_ofNat_Int, Nat.zero_add, Int.reduceEq, decide_true, decide_false, if_true, if_false])
theorem sz {n : Nat} (h : n ≤ 1000) : n ≤ sizeLine := by rw [sizeLine_eq]; omega
theorem szM {n : Nat} (h : n ≤ 2 * 10 ^ 6) : n ≤ sizeLine := by rw [sizeLine_eq]; omega
theorem frzL_dpp : ∀ ps : Rl, frzL (ps.map dpp) = ps.map dpp
  | [] => rfl
  | p :: ps => by
    show frz (dpp p) :: frzL (ps.map dpp) = _
    rw [frzL_dpp ps]; rfl
theorem owL_dpp : ∀ ps : Rl, owL (ps.map dpp) = true
  | [] => rfl
  | p :: ps => by
    show (ow (dpp p) && owL (ps.map dpp)) = true
    rw [owL_dpp ps]; rfl
theorem ltA (b : Bool) : (abS [b] == ("A" : Str)) = b := by cases b <;> decide +kernel
theorem ltB (b : Bool) : (abS [b] == ("B" : Str)) = !b := by cases b <;> decide +kernel
theorem abS_len (l : List Bool) : (abS l).length = l.length := by simp [abS, Str.length]
theorem strD_abS (l : List Bool) : strD (abS l) = l.map lt := by
  unfold strD abS lt abS
  rw [List.toList_toArray, List.map_map]
  rfl
theorem abS_app (l m : List Bool) : abS (l ++ m) = abS l ++ abS m := by
  unfold abS
  rw [List.map_append]
  show _ = (⟨(l.map ch).toArray ++ (m.map ch).toArray⟩ : Str)
  rw [List.append_toArray]
theorem isRace_of {r : Sc} (h : 1 ≤ r.2 ∧ r.2 ≤ r.1) : isRace r.1 r.2 = true := by
  unfold isRace
  rw [decide_eq_true h.2, decide_eq_true h.1]; rfl
theorem m_is_race (ds : List D) (Q' : D → Prop) (E' : XD → Prop) (hl : ds.length = 1) (h : sp_is_race ds Q' E') : rd_is_race { nx := fun _ => Q' .non, rt := Q', ex := fun x _ => E' x } (startE ["race"] ds) := by
  obtain ⟨n, m, rfl, h⟩ := h
  show rd_is_race _ [some (.tup [.int n, .int m])]
  unfold rd_is_race
  walk_at "rd"
  unfold isRace at h
  cases e : decide (m ≤ n) <;> simpa [e] using h
theorem m_has_won (ds : List D) (Q' : D → Prop) (E' : XD → Prop) (hl : ds.length = 3) (h : sp_has_won ds Q' E') : rd_has_won { nx := fun _ => Q' .non, rt := Q', ex := fun x _ => E' x } (startE ["race", "own", "other", "n", "m"] ds) := by
  obtain ⟨r, a, b, rfl, h⟩ := h
  show rd_has_won _ [some (.tup [.int r.1, .int r.2]), some (.int a), some (.int b), none, none]
  unfold rd_has_won
  walk_at "rd"
  unfold rd_has_won_r0
  walk_at "rd"
  unfold won at h
  generalize decide (r.1 ≤ a) = p1 at h ⊢
  generalize decide (r.2 ≤ a - b) = p2 at h ⊢
  cases p1 <;> cases p2 <;> exact h
theorem m_check_rule (ds : List D) (Q' : D → Prop) (E' : XD → Prop) (hl : ds.length = 1) (h : sp_check_rule ds Q' E') : rd_check_rule { nx := fun _ => Q' .non, rt := Q', ex := fun x _ => E' x } (startE ["rule", "index", "race"] ds) := by
  obtain ⟨ps, rfl, hv, hn, h⟩ := h
  show rd_check_rule _ [some (.lst false (ps.map dpp)), none, none]
  unfold rd_check_rule
  walk_at "rd"
  simp only [frzL_dpp]
  refine ⟨by rw [enumD_len, List.length_map]; omega, ?_⟩
  refine rForL_inv (fun i env => ∃ v1 v2, env = [some (.lst false (ps.map dpp)), v1, v2]) ⟨none, none, rfl⟩ ?_ ?_
  · intro i d env K hi hI hK
    obtain ⟨v1, v2, rfl⟩ := hI
    obtain ⟨x, hx, ed⟩ := enumD_at 0 _ i d hi
    rw [List.getElem?_map] at hx
    cases hp : ps[i]? with
    | none => rw [hp] at hx; cases hx
    | some p =>
      rw [hp] at hx
      have ex : dpp p = x := Option.some.inj hx
      subst ex ed
      walk_at "rd"
      unfold rd_check_rule_b0
      walk_at "rd"
      refine ⟨p.1, p.2, rfl, ?_⟩
      rw [isRace_of (hv p (List.mem_of_getElem? hp))]
      exact hK _ ⟨_, _, rfl⟩
  · intro env hI
    obtain ⟨v1, v2, rfl⟩ := hI
    exact h
theorem in_AB (b : Bool) : inD (lt b) [.str "A", .str "B"] = true := by cases b <;> decide +kernel
theorem m_check_letters (ds : List D) (Q' : D → Prop) (E' : XD → Prop) (hl : ds.length = 1) (h : sp_check_letters ds Q' E') : rd_check_letters { nx := fun _ => Q' .non, rt := Q', ex := fun x _ => E' x } (startE ["points", "index", "letter"] ds) := by
  obtain ⟨l, rfl, hl, h⟩ := h
  show rd_check_letters _ [some (.str (abS l)), none, none]
  unfold rd_check_letters
  walk_at "rd"
  refine ⟨by rw [enumD_len, strD_abS, List.length_map]; omega, ?_⟩
  rw [strD_abS]
  refine rForL_inv (fun i env => ∃ v1 v2, env = [some (.str (abS l)), v1, v2]) ⟨none, none, rfl⟩ ?_ ?_
  · intro i d env K hi hI hK
    obtain ⟨v1, v2, rfl⟩ := hI
    obtain ⟨x, hx, ed⟩ := enumD_at 0 _ i d hi
    rw [List.getElem?_map] at hx
    cases hp : l[i]? with
    | none => rw [hp] at hx; cases hx
    | some b =>
      rw [hp] at hx
      have ex : lt b = x := Option.some.inj hx
      subst ex ed
      walk_at "rd"
      unfold rd_check_letters_b0
      walk_at "rd"
      refine ⟨sz (by decide), rfl, ?_⟩
      rw [show frz (lt b) = lt b from rfl, in_AB]
      exact hK _ ⟨_, _, rfl⟩
  · intro env hI
    obtain ⟨v1, v2, rfl⟩ := hI
    exact h
theorem zeros_map : ∀ rs : Rl, (List.replicate rs.length [D.tup [.int 0, .int 0]]).flatten = (zeros rs).map dpp
  | [] => rfl
  | r :: rs => by
    rw [List.length_cons, List.replicate_succ, List.flatten_cons, zeros_map rs]
    rfl
theorem m_start_scores (ds : List D) (Q' : D → Prop) (E' : XD → Prop) (hl : ds.length = 1) (h : sp_start_scores ds Q' E') : rd_start_scores { nx := fun _ => Q' .non, rt := Q', ex := fun x _ => E' x } (startE ["rule"] ds) := by
  obtain ⟨rs, rfl, hn, h⟩ := h
  show rd_start_scores _ [some (.lst false (rs.map dpp))]
  unfold rd_start_scores
  walk_at "rd"
  rw [frzL_dpp, List.length_map, Int.toNat_natCast, zeros_map]
  exact ⟨sz (by decide), sz (by decide), ⟨by omega, by omega⟩, sz (by omega), h⟩
theorem m_add_unit (ds : List D) (Q' : D → Prop) (E' : XD → Prop) (hl : ds.length = 2) (h : sp_add_unit ds Q' E') : rd_add_unit { nx := fun _ => Q' .non, rt := Q', ex := fun x _ => E' x } (startE ["score", "side", "a", "b"] ds) := by
  obtain ⟨s, b, rfl, h⟩ := h
  show rd_add_unit _ [some (.tup [.int s.1, .int s.2]), some (.str (abS [b])), none, none]
  unfold rd_add_unit
  walk_at "rd"
  unfold rd_add_unit_r1
  walk_at "rd"
  rw [ltA]
  cases b
  · unfold rd_add_unit_r0
    walk_at "rd"
    exact ⟨sz (by decide), h⟩
  · exact ⟨sz (by decide), h⟩
theorem m_wins_race (ds : List D) (Q' : D → Prop) (E' : XD → Prop) (hl : ds.length = 3) (h : sp_wins_race ds Q' E') : rd_wins_race { nx := fun _ => Q' .non, rt := Q', ex := fun x _ => E' x } (startE ["race", "score", "side", "a", "b"] ds) := by
  obtain ⟨r, s, b, rfl, h⟩ := h
  show rd_wins_race _ [some (.tup [.int r.1, .int r.2]), some (.tup [.int s.1, .int s.2]), some (.str (abS [b])), none, none]
  unfold rd_wins_race
  walk_at "rd"
  unfold rd_wins_race_r1
  walk_at "rd"
  rw [ltA]
  cases b
  · unfold rd_wins_race_r0
    walk_at "rd"
    exact ⟨r, s.2, s.1, rfl, h⟩
  · exact ⟨r, s.1, s.2, rfl, h⟩
end My

set_option Elab.async false
set_option linter.all false
set_option maxRecDepth 100000
set_option maxHeartbeats 2000000
namespace My
open PySem PySem.Spec PyProof.Rows L2 TT
local macro_rules | `(tactic| walk_at "rd") => `(tactic| simp only [rSeq, rRet, rMs0, rMs1, gAscii, gDigit, gSplit, gPart, gJoin, isS, gStrI, gIntS, gFmt, rFs3, gS, rOf, rvAnd, rvOr, rvNot, TT.r1, r2, rL, rCons, rNil, rVar, rK, r3, mask, frz, frzL, frzS, gLen, gEq, gNe, sm, smL, gTru, gIx, gLt, gLe, gGt, gGe, TT.gSub, gMod, gDiv, gPow, gNeg, gMul, gAdd, gII, gBl, aft, ow, owL, rAsg, gNm, gTp, gsCons, gsNil, rPar, rIfS, rtNot, rtAnd, rtOr, rTru, rtC, rCall, rCallK, rTupE, rLstE, rNext, rNever, rDrop, rMv, rIte, gMin2, gMax2, gMinL, gMaxL, gMm, gII1, gInt1, rRaise, gVal, rAugI, rPut, ixV, rDPut, ixD, gDIn, gDGet, gDisp1, riEnu, iEnu, gSlLo, gSlHi, rErr, rIsErrE, rErrVE, gErrV, rExtS, gReprA, gReprW, gMulX, gSlLoX, gSlHiX, gSgn, rAugX, rAugL, rAugN, riEnuT, iEnuT, gSIx, gSlHiZ, gList, gTuple,  gIsX, rMt1, isL, gLCnt, gLIx, rAppN, List.length_map, rLc, blkE, rtYes, rBrk, rCont, Option.some_inj, gAbs, gIsN, gNotN, gIn, TT.isNon, rForR, rFor, riR1, riR2, riAny, iRg1, iRg2, iAny, rAppS, pmt, List.filterMap_cons, List.filterMap_nil, List.getElem?_cons_zero, List.getElem?_cons_succ, List.length_cons, List.length_nil, List.set_cons_zero, List.set_cons_succ, Option.map_some, Option.map_none, atI_0, atI_1, atI_2, deq_int, deq_bl, deq_str, deq_non, Bool.not_true, Bool.not_false, true_and, and_true, Bool.and_true, Bool.true_and, Nat.reduceAdd, Int.cast_ofNat_Int, Nat.zero_add, Int.reduceEq, decide_true, decide_false, if_true, if_false])

def AInv (rs : Rl) (ss : List Sc) (b : Bool) (i : Nat) (f : List Sc) : Prop := f.length = rs.length ∧
  (i < rs.length → f = List.replicate i (0, 0) ++ ss.drop i ∧ step rs ss b = (List.replicate i (0, 0) ++ (step (rs.drop i) (ss.drop i) b).1, (step (rs.drop i) (ss.drop i) b).2)) ∧ (i = rs.length → step rs ss b = (f, true))
theorem AInv.start {rs : Rl} {ss : List Sc} {b : Bool} (h : rs.length = ss.length) : AInv rs ss b 0 ss := by
  refine ⟨h.symm, fun _ => ⟨by simp, by simp⟩, fun e => ?_⟩
  cases rs with
  | nil => rfl
  | cons r rs => simp at e
theorem set_mid (n : Nat) (x y z : Sc) (l : List Sc) : (List.replicate n x ++ y :: l).set n z = List.replicate n x ++ z :: l := by
  rw [List.set_append_right _ _ (by simp)]
  simp
theorem step_no {r s : Sc} {rs : Rl} {ss : List Sc} {b : Bool} (hw : wins r (unit s b) b = false) : step (r :: rs) (s :: ss) b = (unit s b :: ss, false) := by
  cases rs <;> exact if_neg (by rw [hw]; decide)
theorem AInv.no {rs : Rl} {ss : List Sc} {b : Bool} {i : Nat} {f : List Sc} {r s : Sc} (h : AInv rs ss b i f) (hl : rs.length = ss.length) (hr : rs[i]? = some r) (hs : ss[i]? = some s) (hw : wins r (unit s b) b = false) : step rs ss b = (f.set i (unit s b), false) := by
  have hi : i < rs.length := (List.getElem?_eq_some_iff.mp hr).1
  obtain ⟨ef, es⟩ := h.2.1 hi
  have e1 : rs.drop i = r :: rs.drop (i + 1) := by rw [List.drop_eq_getElem_cons hi]; rw [List.getElem?_eq_getElem hi] at hr; rw [Option.some.inj hr]
  have hi2 : i < ss.length := by omega
  have e2 : ss.drop i = s :: ss.drop (i + 1) := by rw [List.drop_eq_getElem_cons hi2]; rw [List.getElem?_eq_getElem hi2] at hs; rw [Option.some.inj hs]
  have e3 : step (r :: rs.drop (i + 1)) (s :: ss.drop (i + 1)) b = (unit s b :: ss.drop (i + 1), false) := step_no hw
  rw [es, ef, e1, e2, e3, set_mid]
theorem AInv.last {rs : Rl} {ss : List Sc} {b : Bool} {i : Nat} {f : List Sc} {r s : Sc} (h : AInv rs ss b i f) (hl : rs.length = ss.length) (hr : rs[i]? = some r) (hs : ss[i]? = some s) (hw : wins r (unit s b) b = true) (he : i + 1 = rs.length) : AInv rs ss b (i + 1) (f.set i (unit s b)) := by
  have hi : i < rs.length := (List.getElem?_eq_some_iff.mp hr).1
  obtain ⟨ef, es⟩ := h.2.1 hi
  have e1 : rs.drop i = [r] := by
    rw [List.drop_eq_getElem_cons hi, List.drop_of_length_le (by omega)]; rw [List.getElem?_eq_getElem hi] at hr; rw [Option.some.inj hr]
  have hi2 : i < ss.length := by omega
  have e2 : ss.drop i = s :: ss.drop (i + 1) := by rw [List.drop_eq_getElem_cons hi2]; rw [List.getElem?_eq_getElem hi2] at hs; rw [Option.some.inj hs]
  have e3 : step [r] (s :: ss.drop (i + 1)) b = (unit s b :: ss.drop (i + 1), true) := if_pos hw
  refine ⟨by rw [List.length_set]; exact h.1, fun z => by omega, fun _ => ?_⟩
  rw [es, ef, e1, e2, e3, set_mid]
theorem AInv.next {rs : Rl} {ss : List Sc} {b : Bool} {i : Nat} {f : List Sc} {r s : Sc} (h : AInv rs ss b i f) (hl : rs.length = ss.length) (hr : rs[i]? = some r) (hs : ss[i]? = some s) (hw : wins r (unit s b) b = true) (he : i + 1 < rs.length) : AInv rs ss b (i + 1) ((f.set i (unit s b)).set i (0, 0)) := by
  have hi : i < rs.length := (List.getElem?_eq_some_iff.mp hr).1
  obtain ⟨ef, es⟩ := h.2.1 hi
  have e1 : rs.drop i = r :: rs.drop (i + 1) := by rw [List.drop_eq_getElem_cons hi]; rw [List.getElem?_eq_getElem hi] at hr; rw [Option.some.inj hr]
  have e4 : rs.drop (i + 1) = rs[i + 1] :: rs.drop (i + 2) := List.drop_eq_getElem_cons he
  have hi2 : i < ss.length := by omega
  have e2 : ss.drop i = s :: ss.drop (i + 1) := by rw [List.drop_eq_getElem_cons hi2]; rw [List.getElem?_eq_getElem hi2] at hs; rw [Option.some.inj hs]
  have e3 : step (r :: rs.drop (i + 1)) (s :: ss.drop (i + 1)) b = ((0, 0) :: (step (rs.drop (i + 1)) (ss.drop (i + 1)) b).1, (step (rs.drop (i + 1)) (ss.drop (i + 1)) b).2) := by
    rw [e4]
    exact if_pos hw
  refine ⟨by rw [List.length_set, List.length_set]; exact h.1, fun z => ⟨?_, ?_⟩, fun z => by omega⟩
  · rw [ef, e2, set_mid, set_mid, List.replicate_succ']
    simp
  · rw [es, e1, e2, e3, List.replicate_succ']
    simp
theorem atM {ss : List Sc} {i : Nat} {s : Sc} (h : ss[i]? = some s) : atI (ss.map dpp) (i : Int) = some (dpp s) := atI_nat (by rw [List.getElem?_map, h]; rfl)
theorem set_at {f : List Sc} {i : Nat} {x : Sc} (h : i < f.length) : (f.set i x)[i]? = some x := by rw [List.getElem?_set_self h]
theorem frz_dpp (s : Sc) : frz (dpp s) = dpp s := rfl
theorem ow_lt (b : Bool) : ow (lt b) = true := rfl
theorem ow_dpp (s : Sc) : ow (dpp s) = true := rfl
theorem frz_lt (b : Bool) : frz (lt b) = lt b := rfl
theorem m_add_point (ds : List D) (Q' : D → Prop) (E' : XD → Prop) (hl : ds.length = 3) (h : sp_add_point ds Q' E') : rd_add_point { nx := fun _ => Q' .non, rt := Q', ex := fun x _ => E' x } (startE ["rule", "scores", "side", "found", "level", "race"] ds) := by
  obtain ⟨rs, ss, b, rfl, hl, hn, h⟩ := h
  show rd_add_point _ [some (.lst false (rs.map dpp)), some (.lst false (ss.map dpp)), some (lt b), none, none, none]
  unfold rd_add_point
  walk_at "rd"
  try simp only [frzL_dpp]
  refine ⟨by rw [List.length_map]; exact sz (by omega), ?_⟩
  rw [owL_dpp]
  unfold rd_add_point_r4
  walk_at "rd"
  simp only [frzL_dpp]
  refine ⟨by rw [enumD_len, List.length_map]; omega, ?_⟩
  refine rForL_inv (fun i env => ∃ f v4 v5, env = [some (.lst false (rs.map dpp)), some (.lst false (ss.map dpp)), some (lt b), some (.lst true (f.map dpp)), v4, v5] ∧ AInv rs ss b i f) ⟨ss, none, none, rfl, AInv.start hl⟩ ?_ ?_
  · intro i d env K hi hI hK
    obtain ⟨f, v4, v5, rfl, hA⟩ := hI
    obtain ⟨x, hx, ed⟩ := enumD_at 0 _ i d hi
    rw [List.getElem?_map] at hx
    cases hp : rs[i]? with
    | none => rw [hp] at hx; cases hx
    | some r =>
      rw [hp] at hx
      have ex : dpp r = x := Option.some.inj hx
      subst ex ed
      have hir : i < rs.length := (List.getElem?_eq_some_iff.mp hp).1
      obtain ⟨s, hs⟩ : ∃ s, ss[i]? = some s := ⟨_, List.getElem?_eq_getElem (by omega)⟩
      have hlf := hA.1
      walk_at "rd"
      unfold rd_add_point_b2
      walk_at "rd"
      rw [frzL_dpp, atM hs]
      refine ⟨s, b, rfl, ?_⟩
      dsimp only
      rw [show ow (dpp (unit s b)) = true from rfl]
      walk_at "rd"
      rw [ixN_nat (by rw [hlf]; exact hir)]
      dsimp only
      refine ⟨by rw [hlf]; exact hir, ?_⟩
      rw [← List.map_set]
      have hlf2 : (f.set i (unit s b)).length = rs.length := by rw [List.length_set, hlf]
      unfold rd_add_point_r1
      walk_at "rd"
      rw [frzL_dpp, atM (set_at (by rw [hlf]; exact hir))]
      refine ⟨r, unit s b, b, rfl, ?_⟩
      cases hw : wins r (unit s b) b with
      | false =>
        walk_at "rd"
        rw [hA.no hl hp hs hw] at h
        exact ⟨sz (by decide), h⟩
      | true =>
        walk_at "rd"
        unfold rd_add_point_r0
        walk_at "rd"
        rw [frzL_dpp, List.length_map]
        by_cases he : i + 1 < rs.length
        · rw [decide_eq_true (show (i : Int) + 1 < (rs.length : Int) from by omega)]
          walk_at "rd"
          rw [ixN_nat (by rw [hlf2]; exact hir)]
          refine ⟨sz (by decide), by rw [hlf2]; exact hir, ?_⟩
          have hn := hA.next hl hp hs hw he
          exact hK _ ⟨_, some (.int i), some (dpp r), by rw [List.map_set (l := f.set i (unit s b))]; rfl, hn⟩
        · rw [decide_eq_false (show ¬ (i : Int) + 1 < (rs.length : Int) from by omega)]
          exact hK _ ⟨_, _, _, rfl, hA.last hl hp hs hw (by omega)⟩
  · intro env hI
    obtain ⟨f, v4, v5, rfl, hA⟩ := hI
    rw [enumD_len, List.length_map] at hA
    dsimp only
    unfold rd_add_point_r3
    walk_at "rd"
    rw [frzL_dpp]
    rw [hA.2.2 rfl] at h
    exact ⟨sz (by decide), h⟩
end My

set_option Elab.async false
set_option linter.all false
set_option maxRecDepth 100000
set_option maxHeartbeats 2000000
namespace My
open PySem PySem.Spec PyProof.Rows L2 TT
local macro_rules | `(tactic| walk_at "rd") => `(tactic| simp only [rSeq, rRet, rMs0, rMs1, gAscii, gDigit, gSplit, gPart, gJoin, isS, gStrI, gIntS, gFmt, rFs3, gS, rOf, rvAnd, rvOr, rvNot, TT.r1, r2, rL, rCons, rNil, rVar, rK, r3, mask, frz, frzL, frzS, gLen, gEq, gNe, sm, smL, gTru, gIx, gLt, gLe, gGt, gGe, TT.gSub, gMod, gDiv, gPow, gNeg, gMul, gAdd, gII, gBl, aft, ow, owL, rAsg, gNm, gTp, gsCons, gsNil, rPar, rIfS, rtNot, rtAnd, rtOr, rTru, rtC, rCall, rCallK, rTupE, rLstE, rNext, rNever, rDrop, rMv, rIte, gMin2, gMax2, gMinL, gMaxL, gMm, gII1, gInt1, rRaise, gVal, rAugI, rPut, ixV, rDPut, ixD, gDIn, gDGet, gDisp1, riEnu, iEnu, gSlLo, gSlHi, rErr, rIsErrE, rErrVE, gErrV, rExtS, gReprA, gReprW, gMulX, gSlLoX, gSlHiX, gSgn, rAugX, rAugL, rAugN, riEnuT, iEnuT, gSIx, gSlHiZ, gList, gTuple,  gIsX, rMt1, isL, gLCnt, gLIx, rAppN, List.length_map, rLc, blkE, rtYes, rBrk, rCont, Option.some_inj, gAbs, gIsN, gNotN, gIn, TT.isNon, rForR, rFor, riR1, riR2, riAny, iRg1, iRg2, iAny, rAppS, pmt, List.filterMap_cons, List.filterMap_nil, List.getElem?_cons_zero, List.getElem?_cons_succ, List.length_cons, List.length_nil, List.set_cons_zero, List.set_cons_succ, Option.map_some, Option.map_none, atI_0, atI_1, atI_2, deq_int, deq_bl, deq_str, deq_non, Bool.not_true, Bool.not_false, Bool.false_and, Bool.and_false, ow_lt, ow_dpp, frz_dpp, frzL_dpp, frz_lt, owL_dpp, true_and, and_true, Bool.and_true, Bool.true_and, Nat.reduceAdd, Int.cast_ofNat_Int, Nat.zero_add, Int.reduceEq, decide_true, decide_false, if_true, if_false, rMv2])
theorem step_len : ∀ (rs : Rl) (ss : List Sc) (b : Bool), rs.length = ss.length → (step rs ss b).1.length = rs.length
  | [], ss, b, h => by rw [h]; rfl
  | r :: rs, [], b, h => by simp at h
  | r :: rs, s :: ss, b, h => by
    cases hw : wins r (unit s b) b with
    | false => rw [step_no hw]; simpa using h.symm
    | true =>
      cases rs with
      | nil =>
        have e : step [r] (s :: ss) b = (unit s b :: ss, true) := if_pos hw
        rw [e]; simpa using h.symm
      | cons r2 rs =>
        have e : step (r :: r2 :: rs) (s :: ss) b = ((0, 0) :: (step (r2 :: rs) ss b).1, (step (r2 :: rs) ss b).2) := if_pos hw
        rw [e, List.length_cons, List.length_cons, step_len (r2 :: rs) ss b (by simpa using h)]
theorem zeros_len (rs : Rl) : (zeros rs).length = rs.length := by unfold zeros; rw [List.length_map]
theorem st_len (rs : Rl) : ∀ l, (st rs l).length = rs.length := by
  refine rev_ind (zeros_len rs) fun l b ih => ?_
  rw [st_snoc, step_len rs _ b ih.symm]
theorem split_i {l : List Bool} {i : Nat} {b : Bool} (h : l[i]? = some b) : l = l.take i ++ b :: l.drop (i + 1) ∧ l.take (i + 1) = l.take i ++ [b] := by
  have hi : i < l.length := (List.getElem?_eq_some_iff.mp h).1
  have e : l[i] = b := by rw [List.getElem?_eq_getElem hi] at h; exact Option.some.inj h
  refine ⟨?_, ?_⟩
  · rw [← e, ← List.drop_eq_getElem_cons hi, List.take_append_drop]
  · rw [List.take_add_one, h]; rfl
theorem Opn.nil (rs : Rl) : Opn rs [] := fun p b q e => by
  have := congrArg List.length e
  simp at this
theorem Opn.snoc {rs : Rl} {l : List Bool} {b : Bool} (h : Opn rs l) (hb : (step rs (st rs l) b).2 = false) : Opn rs (l ++ [b]) := fun p c q e => by
  rcases List.eq_nil_or_concat q with hq | ⟨q', z, hq⟩
  · subst hq
    obtain ⟨e1, e2⟩ := List.append_inj' e rfl
    subst e1
    cases e2
    exact hb
  · subst hq
    have e' : l ++ [b] = (p ++ c :: q') ++ [z] := by rw [e]; simp
    obtain ⟨e1, e2⟩ := List.append_inj' e' rfl
    exact h p c q' e1
/-- what a walk asks -/
theorem over_at {rs : Rl} {l : List Bool} {i : Nat} {b : Bool} {Q : Prop} {R : Bool → Prop} (h : (Opn rs l ∧ Q) ∨ ∃ p b, l = p ++ [b] ∧ Opn rs p ∧ (step rs (st rs p) b).2 = true ∧ R b) (hb : l[i]? = some b) (ho : (step rs (st rs (l.take i)) b).2 = true) : i + 1 = l.length ∧ l.take (i + 1) = l ∧ R b := by
  obtain ⟨e1, e2⟩ := split_i hb
  have hi : i < l.length := (List.getElem?_eq_some_iff.mp hb).1
  rcases h with ⟨hO, _⟩ | ⟨p, c, e, hp, hc, hR⟩
  · have := hO _ b _ e1
    rw [ho] at this; cases this
  · have hl : l.length = p.length + 1 := by rw [e]; simp
    by_cases hip : i < p.length
    · have et : l.take i = p.take i := by rw [e, List.take_append_of_le_length (by omega)]
      have hpi : p[i]? = some b := by rw [e, List.getElem?_append_left hip] at hb; exact hb
      have := hp _ b _ (split_i hpi).1
      rw [et, this] at ho; cases ho
    · have : i = p.length := by omega
      subst this
      have hbc : b = c := by rw [e] at hb; simpa using hb.symm
      subst hbc
      exact ⟨by omega, List.take_of_length_le (by omega), hR⟩
theorem open_end {rs : Rl} {l : List Bool} {Q : Prop} {R : Bool → Prop} (h : (Opn rs l ∧ Q) ∨ ∃ p b, l = p ++ [b] ∧ Opn rs p ∧ (step rs (st rs p) b).2 = true ∧ R b) (ho : Opn rs l) : Q := by
  rcases h with ⟨_, q⟩ | ⟨p, c, e, hp, hc, hR⟩
  · exact q
  · have := ho p c [] e
    rw [hc] at this; cases this
theorem m_walk (ds : List D) (Q' : D → Prop) (E' : XD → Prop) (hl : ds.length = 2) (h : sp_walk ds Q' E') : rd_walk { nx := fun _ => Q' .non, rt := Q', ex := fun x _ => E' x } (startE ["rule", "points", "scores", "number", "side", "over"] ds) := by
  obtain ⟨rs, l, rfl, ⟨m1, m2, m3⟩, h⟩ := h
  show rd_walk _ [some (.lst false (rs.map dpp)), some (.str (abS l)), none, none, none, none]
  unfold rd_walk
  walk_at "rd"
  refine ⟨rs, rfl, m2, ?_⟩
  walk_at "rd"
  unfold rd_walk_r3
  walk_at "rd"
  refine ⟨by rw [enumD_len, strD_abS, List.length_map]; omega, ?_⟩
  rw [strD_abS]
  refine rForL_inv (fun i env => ∃ o v3 v4 v5, env = [some (.lst false (rs.map dpp)), some (.str (abS l)), some (.lst o ((st rs (l.take i)).map dpp)), v3, v4, v5] ∧ Opn rs (l.take i)) ⟨true, none, none, none, rfl, Opn.nil rs⟩ ?_ ?_
  · intro i d env K hi hI hK
    obtain ⟨o, v3, v4, v5, rfl, hO⟩ := hI
    obtain ⟨x, hx, ed⟩ := enumD_at 1 _ i d hi
    rw [List.getElem?_map] at hx
    cases hp : l[i]? with
    | none => rw [hp] at hx; cases hx
    | some b =>
      rw [hp] at hx
      have ex : lt b = x := Option.some.inj hx
      subst ex ed
      have hl1 := st_len rs (l.take i)
      walk_at "rd"
      unfold rd_walk_b1
      walk_at "rd"
      refine ⟨rs, st rs (l.take i), b, rfl, hl1.symm, m2, ?_⟩
      walk_at "rd"
      unfold rd_walk_r0
      walk_at "rd"
      obtain ⟨e1, e2⟩ := split_i hp
      cases ho : (step rs (st rs (l.take i)) b).2 with
      | false =>
        walk_at "rd"
        exact hK _ ⟨false, some (.int ((1 + i : Nat) : Int)), some (lt b), some (.bl false), by rw [e2, st_snoc], by rw [e2]; exact hO.snoc ho⟩
      | true =>
        obtain ⟨f1, f2, f3⟩ := over_at h hp ho
        walk_at "rd"
        have e3 : ((1 + i : Nat) : Int) = (l.length : Int) := by omega
        have e4 : (step rs (st rs (l.take i)) b).1 = st rs l := by rw [← st_snoc, ← e2, f2]
        rw [e3, e4]
        exact ⟨sz (by decide), f3⟩
  · intro env hI
    obtain ⟨o, v3, v4, v5, rfl, hO⟩ := hI
    rw [enumD_len, List.length_map, List.take_of_length_le (Nat.le_refl _)] at hO
    have q := open_end h hO
    dsimp only
    unfold rd_walk_r2
    walk_at "rd"
    rw [enumD_len, List.length_map, List.take_of_length_le (Nat.le_refl _)]
    exact ⟨sz (by decide), q⟩
theorem m_play (ds : List D) (Q' : D → Prop) (E' : XD → Prop) (hl : ds.length = 2) (h : sp_play ds Q' E') : rd_play { nx := fun _ => Q' .non, rt := Q', ex := fun x _ => E' x } (startE ["rule", "points", "number", "winner", "scores"] ds) := by
  obtain ⟨rs, l, rfl, ⟨m1, m2, m3⟩, hv, h⟩ := h
  show rd_play _ [some (.lst false (rs.map dpp)), some (.str (abS l)), none, none, none]
  unfold rd_play
  walk_at "rd"
  refine ⟨rs, rfl, hv, m2, ?_⟩
  unfold rd_play_r3
  walk_at "rd"
  refine ⟨l, rfl, m3, ?_⟩
  unfold rd_play_r2
  walk_at "rd"
  refine ⟨rs, l, rfl, ⟨m1, m2, m3⟩, ?_⟩
  rcases h with ⟨hO, q⟩ | ⟨p, b, e, hp, ho, q⟩
  · refine .inl ⟨hO, ?_⟩
    walk_at "rd"
    unfold rd_play_r1
    walk_at "rd"
    unfold rd_play_r0
    walk_at "rd"
    exact ⟨sz (by decide), q⟩
  · refine .inr ⟨p, b, e, hp, ho, ?_⟩
    walk_at "rd"
    unfold rd_play_r1
    walk_at "rd"
    rw [abS_len]
    refine ⟨szM (by omega), ?_⟩
    rw [decide_eq_false (by omega)]
    unfold rd_play_r0
    walk_at "rd"
    exact ⟨sz (by decide), q⟩
theorem m_check_level (ds : List D) (Q' : D → Prop) (E' : XD → Prop) (hl : ds.length = 2) (h : sp_check_level ds Q' E') : rd_check_level { nx := fun _ => Q' .non, rt := Q', ex := fun x _ => E' x } (startE ["rule", "level"] ds) := by
  obtain ⟨rs, k, rfl, hk, hn, h⟩ := h
  show rd_check_level _ [some (.lst false (rs.map dpp)), some (.int k)]
  unfold rd_check_level
  walk_at "rd"
  rw [decide_eq_true (show (0 : Int) ≤ (k : Int) from by omega)]
  walk_at "rd"
  rw [decide_eq_true (show (k : Int) < (rs.length : Int) from by omega)]
  exact h
theorem deq_00 (s : Sc) : deq (dpp s) (.tup [.int 0, .int 0]) = decide (s = (0, 0)) := by
  unfold dpp dP
  rw [deq_tup2, deq_int, deq_int]
  by_cases h : s = (0, 0)
  · rw [h]; rfl
  · rw [decide_eq_false h]
    by_cases h1 : s.1 = 0
    · have h2 : ¬ s.2 = 0 := fun z => h (Prod.ext h1 z)
      simp [h2]
    · simp [h1]
theorem m_lines_in (ds : List D) (Q' : D → Prop) (E' : XD → Prop) (hl : ds.length = 2) (h : sp_lines_in ds Q' E') : rd_lines_in { nx := fun _ => Q' .non, rt := Q', ex := fun x _ => E' x } (startE ["race", "units", "found", "winners", "score", "side"] ds) := by
  obtain ⟨r, l, rfl, m3, h⟩ := h
  show rd_lines_in _ [some (dpp r), some (.str (abS l)), none, none, none, none]
  unfold rd_lines_in
  walk_at "rd"
  refine ⟨Nat.zero_le _, ?_⟩
  unfold rd_lines_in_r8
  walk_at "rd"
  unfold rd_lines_in_r7
  walk_at "rd"
  refine ⟨sz (by decide), ?_⟩
  unfold rd_lines_in_r6
  walk_at "rd"
  rw [strD_abS]
  refine ⟨by rw [List.length_map]; omega, ?_⟩
  refine rForL_inv (fun i env => ∃ v5, env = [some (dpp r), some (.str (abS l)), some (.lst true (((ln r (l.take i)).1.map Prod.fst).map dpp)), some (.str (abS (wn r (l.take i)))), some (dpp (ln r (l.take i)).2), v5]) ⟨none, ?_⟩ ?_ ?_
  · rfl
  · intro i d env K hi hI hK
    obtain ⟨v5, rfl⟩ := hI
    rw [List.getElem?_map] at hi
    cases hp : l[i]? with
    | none => rw [hp] at hi; cases hi
    | some b =>
      rw [hp] at hi
      have ex : lt b = d := Option.some.inj hi
      subst ex
      obtain ⟨e1, e2⟩ := split_i hp
      have il : i < l.length := (List.getElem?_eq_some_iff.mp hp).1
      walk_at "rd"
      unfold rd_lines_in_b3
      walk_at "rd"
      refine ⟨(ln r (l.take i)).2, b, rfl, ?_⟩
      walk_at "rd"
      unfold rd_lines_in_r2
      walk_at "rd"
      refine ⟨r, unit (ln r (l.take i)).2 b, b, rfl, ?_⟩
      cases hw : wins r (unit (ln r (l.take i)).2 b) b with
      | false =>
        walk_at "rd"
        have e3 := ln_snoc r (l.take i) b
        unfold lnF at e3
        rw [if_neg (by rw [hw]; decide), ← e2] at e3
        refine hK _ ⟨some (lt b), ?_⟩
        unfold wn
        rw [e3]
      | true =>
        walk_at "rd"
        have e3 := ln_snoc r (l.take i) b
        unfold lnF at e3
        rw [if_pos hw, ← e2] at e3
        have hl3 := wn_len r (l.take i)
        have hl4 : (l.take i).length ≤ l.length := by rw [List.length_take]; omega
        unfold wn at hl3
        rw [List.length_map] at hl3
        refine ⟨by rw [sizeLine_eq]; omega, ?_⟩
        unfold rd_lines_in_r1
        walk_at "rd"
        rw [show lt b = D.str (abS [b]) from rfl]
        dsimp only
        rw [abS_len, abS_len]
        refine ⟨szM (by have := wn_len r (l.take i); rw [List.length_singleton]; omega), ?_⟩
        unfold rd_lines_in_r0
        walk_at "rd"
        refine ⟨sz (by decide), hK _ ⟨some (lt b), ?_⟩⟩
        unfold wn
        rw [e3, List.map_append, List.map_append, List.map_append, abS_app]
        rfl
  · intro env hI
    obtain ⟨v5, rfl⟩ := hI
    rw [List.length_map, List.take_of_length_le (Nat.le_refl _)]
    have hl3 := wn_len r l
    unfold wn at hl3
    rw [List.length_map] at hl3
    dsimp only
    unfold rd_lines_in_r5
    walk_at "rd"
    refine ⟨sz (by decide), rfl, ?_⟩
    rw [deq_00]
    unfold lnS tail0 at h
    by_cases hz : (ln r l).2 = (0, 0)
    · rw [decide_eq_true hz]
      rw [if_pos hz, List.append_nil] at h
      walk_at "rd"
      unfold rd_lines_in_r4
      walk_at "rd"
      exact h
    · rw [decide_eq_false hz]
      rw [if_neg hz, List.map_append] at h
      walk_at "rd"
      refine ⟨by rw [sizeLine_eq]; omega, ?_⟩
      unfold rd_lines_in_r4
      walk_at "rd"
      exact h
end My

set_option Elab.async false
set_option linter.all false
set_option maxRecDepth 100000
set_option maxHeartbeats 2000000
namespace My
open PySem PySem.Spec PyProof.Rows L2 TT
local macro_rules | `(tactic| walk_at "rd") => `(tactic| simp only [rSeq, rRet, rMs0, rMs1, gAscii, gDigit, gSplit, gPart, gJoin, isS, gStrI, gIntS, gFmt, rFs3, gS, rOf, rvAnd, rvOr, rvNot, TT.r1, r2, rL, rCons, rNil, rVar, rK, r3, mask, frz, frzL, frzS, gLen, gEq, gNe, sm, smL, gTru, gIx, gLt, gLe, gGt, gGe, TT.gSub, gMod, gDiv, gPow, gNeg, gMul, gAdd, gII, gBl, aft, ow, owL, rAsg, gNm, gTp, gsCons, gsNil, rPar, rIfS, rtNot, rtAnd, rtOr, rTru, rtC, rCall, rCallK, rTupE, rLstE, rNext, rNever, rDrop, rMv, rIte, gMin2, gMax2, gMinL, gMaxL, gMm, gII1, gInt1, rRaise, gVal, rAugI, rPut, ixV, rDPut, ixD, gDIn, gDGet, gDisp1, riEnu, iEnu, gSlLo, gSlHi, rErr, rIsErrE, rErrVE, gErrV, rExtS, gReprA, gReprW, gMulX, gSlLoX, gSlHiX, gSgn, rAugX, rAugL, rAugN, riEnuT, iEnuT, gSIx, gSlHiZ, gList, gTuple,  gIsX, rMt1, isL, gLCnt, gLIx, rAppN, List.length_map, rLc, blkE, rtYes, rBrk, rCont, Option.some_inj, gAbs, gIsN, gNotN, gIn, TT.isNon, rForR, rFor, riR1, riR2, riAny, iRg1, iRg2, iAny, rAppS, pmt, List.filterMap_cons, List.filterMap_nil, List.getElem?_cons_zero, List.getElem?_cons_succ, List.length_cons, List.length_nil, List.set_cons_zero, List.set_cons_succ, Option.map_some, Option.map_none, atI_0, atI_1, atI_2, deq_int, deq_bl, deq_str, deq_non, Bool.not_true, Bool.not_false, Bool.false_and, Bool.and_false, ow_lt, ow_dpp, frz_dpp, frzL_dpp, frz_lt, owL_dpp, true_and, and_true, Bool.and_true, Bool.true_and, Nat.reduceAdd, Int.cast_ofNat_Int, Nat.zero_add, Int.reduceEq, decide_true, decide_false, if_true, if_false])

theorem up_snoc (rs : Rl) (r : Sc) (l : List Bool) : up (rs ++ [r]) l = wn r (up rs l) := by
  unfold up
  rw [List.foldl_append]; rfl
theorem up_take {rs : Rl} {i : Nat} {r : Sc} (h : rs[i]? = some r) (l : List Bool) : up (rs.take (i + 1)) l = wn r (up (rs.take i) l) := by
  rw [List.take_add_one, h]
  exact up_snoc _ _ _
theorem m_lines_of (ds : List D) (Q' : D → Prop) (E' : XD → Prop) (hl : ds.length = 3) (h : sp_lines_of ds Q' E') : rd_lines_of { nx := fun _ => Q' .non, rt := Q', ex := fun x _ => E' x } (startE ["rule", "points", "level", "units", "race", "found", "_"] ds) := by
  obtain ⟨rs, l, k, r, rfl, ⟨m1, m2, m3⟩, hv, ho, hr, h⟩ := h
  have hk : k < rs.length := (List.getElem?_eq_some_iff.mp hr).1
  show rd_lines_of _ [some (.lst false (rs.map dpp)), some (.str (abS l)), some (.int k), none, none, none, none]
  unfold rd_lines_of
  walk_at "rd"
  have rest : rd_lines_of_r5 { nx := fun _ => Q' .non, rt := Q', ex := fun x _ => E' x } [some (.lst false (rs.map dpp)), some (.str (abS l)), some (.int k), none, none, none, none] := by
    unfold rd_lines_of_r5
    walk_at "rd"
    refine ⟨rs, k, rfl, hk, m2, ?_⟩
    unfold rd_lines_of_r4
    walk_at "rd"
    unfold rd_lines_of_r3
    walk_at "rd"
    rw [if_neg (by omega)]
    refine ⟨by omega, ?_⟩
    rw [Int.toNat_natCast, ← List.map_take, frzL_dpp]
    have hl2 := up_len (rs.take k) l
    refine ⟨by rw [List.length_map, List.length_take]; omega, ?_⟩
    refine rForL_inv (fun i env => ∃ v4 v6, env = [some (.lst false (rs.map dpp)), some (.str (abS l)), some (.int k), some (.str (abS (up (rs.take i) l))), v4, none, v6]) ⟨none, none, rfl⟩ ?_ ?_
    · intro i d env K hi hI hK
      obtain ⟨v4, v6, rfl⟩ := hI
      rw [List.getElem?_map] at hi
      have hik : i < k := by
        by_cases z : i < k
        · exact z
        · rw [List.getElem?_eq_none (by rw [List.length_take]; omega)] at hi; cases hi
      rw [List.getElem?_take_of_lt hik] at hi
      cases hp : rs[i]? with
      | none => rw [hp] at hi; cases hi
      | some q =>
        rw [hp] at hi
        have ex : dpp q = d := Option.some.inj hi
        subst ex
        have hl3 := up_len (rs.take i) l
        walk_at "rd"
        unfold rd_lines_of_b0
        walk_at "rd"
        refine ⟨q, up (rs.take i) l, rfl, by omega, ?_⟩
        walk_at "rd"
        exact hK _ ⟨_, _, by rw [up_take hp]⟩
    · intro env hI
      obtain ⟨v4, v6, rfl⟩ := hI
      rw [List.length_map, List.length_take, Nat.min_eq_left (Nat.le_of_lt hk)]
      dsimp only
      unfold rd_lines_of_r2
      walk_at "rd"
      rw [atM hr]
      refine ⟨r, up (rs.take k) l, rfl, by omega, ?_⟩
      walk_at "rd"
      unfold rd_lines_of_r1
      walk_at "rd"
      exact h
  refine ⟨rs, l, rfl, ⟨m1, m2, m3⟩, hv, ?_⟩
  rcases ho with hO | ⟨p, b, e, hp, hb⟩
  · exact .inl ⟨hO, rest⟩
  · exact .inr ⟨p, b, e, hp, hb, rest⟩
theorem sz3 : 3 ≤ sizeLine := by decide
theorem sz2 : 2 ≤ sizeLine := by decide
/-! the law's own steps -/
end My

set_option Elab.async false
set_option linter.all false
set_option maxRecDepth 100000
set_option maxHeartbeats 2000000
namespace My
open PySem PySem.Spec PyProof.Rows L2 TT
local macro_rules | `(tactic| walk_at "rd") => `(tactic| simp only [rSeq, rRet, rMs0, rMs1, gAscii, gDigit, gSplit, gPart, gJoin, isS, gStrI, gIntS, gFmt, rFs3, gS, rOf, rvAnd, rvOr, rvNot, TT.r1, r2, rL, rCons, rNil, rVar, rK, r3, mask, frz, frzL, frzS, gLen, gEq, gNe, sm, smL, gTru, gIx, gLt, gLe, gGt, gGe, TT.gSub, gMod, gDiv, gPow, gNeg, gMul, gAdd, gII, gBl, aft, ow, owL, rAsg, gNm, gTp, gTpL, gsCons, gsNil, rPar, rIfS, rtNot, rtAnd, rtOr, rTru, rtC, rCall, rCallK, rCallO, rTupE, rLstE, rNext, rNever, rDrop, rMv, rIte, gMin2, gMax2, gMinL, gMaxL, gMm, gII1, gInt1, rRaise, gVal, rAugI, rPut, ixV, rDPut, ixD, gDIn, gDGet, gDisp1, riEnu, iEnu, gSlLo, gSlHi, rErr, rIsErrE, rErrVE, gErrV, rExtS, gReprA, gMulX, gSlLoX, gSlHiX, gSgn, rAugX, rAugL, rAugN, riEnuT, iEnuT, gSIx, gSlHiZ, gList, gTuple, gIsX, rPar3, rMenu, gMenu, rMt1, isL, gLCnt, gLIx, rAppN, List.length_map, rLc, blkE, rtYes, rBrk, rCont, Option.some_inj, gAbs, gIsN, gNotN, gIn, TT.isNon, rForR, rFor, riR1, riR2, riAny, iRg1, iRg2, iAny, rAppS, rPool, rForIt, pvV, pvIx, rGet2, gGet2, isT, gSum, gGcd, rInsS, pmt, List.filterMap_cons, List.filterMap_nil, List.getElem?_cons_zero, List.getElem?_cons_succ, List.length_cons, List.length_nil, List.set_cons_zero, List.set_cons_succ, Option.map_some, Option.map_none, atI_0, atI_1, atI_2, deq_int, deq_bl, deq_str, deq_non, Bool.not_true, Bool.not_false, Bool.false_and, Bool.and_false, List.nil_append, true_and, and_true, Bool.and_true, Bool.true_and, Nat.reduceAdd, Int.cast_ofNat_Int, Nat.zero_add, Int.reduceEq, decide_true, decide_false, if_true, if_false, ow_lt, ow_dpp, frz_dpp, frzL_dpp, frz_lt, owL_dpp])
theorem m_law_rule (ds : List D) (Q' : D → Prop) (E' : XD → Prop) (hl : ds.length = 3) (h : sp_law_rule ds Q' E') : rd_law_rule { nx := fun _ => Q' .non, rt := Q', ex := fun x _ => E' x } (startE ["pool", "levels", "product", "found", "left", "turn", "units", "lead"] ds) := by
  obtain ⟨rfl, h⟩ := h
  show rd_law_rule _ [some .bag, some (.int 4), some (.int 500), none, none, none, none, none]
  unfold rd_law_rule
  walk_at "rd"
  refine ⟨Nat.zero_le _, ?_⟩
  unfold rd_law_rule_r5
  walk_at "rd"
  refine ⟨_, rfl, by decide, by decide, fun k k0 k1 => ?_⟩
  walk_at "rd"
  refine ⟨by omega, by omega, by rw [rngD_len]; omega, ?_⟩
  refine rForL_inv (fun i env => ∃ (rs : Rl) (left : Int) (v5 v6 v7 : Option D), env = [some .bag, some (.int 4), some (.int 500), some (.lst true (rs.map dpp)), some (.int left), v5, v6, v7] ∧ Valid rs ∧ rs.length ≤ i ∧ (∀ r ∈ rs, r.1 ≤ 12) ∧ 1 ≤ left ∧ left ≤ 500) ⟨[], 500, none, none, none, rfl, (fun _ m => nomatch m), Nat.zero_le _, (fun _ m => nomatch m), by decide, by decide⟩ ?_ ?_
  · intro i d env K hi hI hK
    obtain ⟨rs, left, v5, v6, v7, rfl, hv, hn, h6, s1, s2⟩ := hI
    obtain ⟨e, il⟩ := rng_at hi
    subst e
    walk_at "rd"
    unfold rd_law_rule_b3
    walk_at "rd"
    refine ⟨_, rfl, by omega, by omega, fun u u0 u1 => ?_⟩
    walk_at "rd"
    obtain ⟨n, en⟩ : ∃ n, n = 1 + u := ⟨_, rfl⟩
    rw [← en]
    have n1 : 1 ≤ n := by omega
    have n2 : n ≤ 12 := by omega
    have n3 : n ≤ left := by omega
    unfold rd_law_rule_r2
    walk_at "rd"
    refine ⟨_, rfl, by omega, by omega, fun y y0 y1 => ⟨sz (by decide), 4, rfl, by decide, by decide, fun z z0 z1 => ?_⟩⟩
    obtain ⟨m, em, m1, m2⟩ : ∃ m : Int, atI [D.int 1, D.int (min n 2), D.int n, D.int (1 + y)] z = some (.int m) ∧ 1 ≤ m ∧ m ≤ n := by
      have hz : z = 0 ∨ z = 1 ∨ z = 2 ∨ z = 3 := by omega
      rcases hz with rfl | rfl | rfl | rfl
      · exact ⟨1, rfl, by omega, n1⟩
      · exact ⟨min n 2, rfl, by omega, by omega⟩
      · exact ⟨n, rfl, n1, Int.le_refl _⟩
      · exact ⟨1 + y, rfl, by omega, by omega⟩
    dsimp only
    rw [em]
    walk_at "rd"
    unfold rd_law_rule_r1
    walk_at "rd"
    refine ⟨sz2, by rw [sizeLine_eq]; omega, ?_⟩
    unfold rd_law_rule_r0
    walk_at "rd"
    have q1 : 1 ≤ left / n := by
      have := Int.ediv_le_ediv (show 0 < n from by omega) n3
      rw [Int.ediv_self (by omega)] at this
      exact this
    have q2 : left / n ≤ left := Int.ediv_le_self _ (by omega)
    refine ⟨wide_div (b := 200) (by omega) (by omega) (by decide) (by decide), hK _ ⟨rs ++ [(n, m)], left / n, _, _, _, by rw [List.map_append]; rfl, ?_, by rw [List.length_append]; simp; omega, ?_, q1, by omega⟩⟩
    · intro r hr
      rcases List.mem_append.mp hr with hr | hr
      · exact hv r hr
      · rw [List.mem_singleton.mp hr]; exact ⟨m1, m2⟩
    · intro r hr
      rcases List.mem_append.mp hr with hr | hr
      · exact h6 r hr
      · rw [List.mem_singleton.mp hr]; exact n2
  · intro env hI
    obtain ⟨rs, left, v5, v6, v7, rfl, hv, hn, h6, s1, s2⟩ := hI
    rw [rngD_len] at hn
    dsimp only
    unfold rd_law_rule_r4
    walk_at "rd"
    exact h rs ⟨hv, h6, by omega⟩

theorem m_law_won (ds : List D) (Q' : D → Prop) (E' : XD → Prop) (hl : ds.length = 3) (h : sp_law_won ds Q' E') : rd_law_won { nx := fun _ => Q' .non, rt := Q', ex := fun x _ => E' x } (startE ["race", "one", "two"] ds) := by
  obtain ⟨r, s, b, rfl, hr, ⟨h0, ha, hb⟩, h⟩ := h
  show rd_law_won _ [some (.tup [.int r.1, .int r.2]), some (.int (unit s b).1), some (.int (unit s b).2)]
  unfold rd_law_won
  walk_at "rd"
  unfold won at ha hb
  rw [Bool.and_eq_false_iff, decide_eq_false_iff_not, decide_eq_false_iff_not] at ha hb
  have key : wins r (unit s b) b = decide (¬ (max (unit s b).1 (unit s b).2 < r.1 ∨ max ((unit s b).1 - (unit s b).2) ((unit s b).2 - (unit s b).1) < r.2)) := by
    unfold wins won unit
    rw [Bool.eq_iff_iff]
    cases b <;> simp <;> omega
  by_cases c1 : max (unit s b).1 (unit s b).2 < r.1
  · rw [key, decide_eq_false (fun z => z (.inl c1)), if_neg Bool.false_ne_true] at h
    rw [decide_eq_true c1]
    exact h
  · rw [decide_eq_false c1]
    by_cases c2 : max ((unit s b).1 - (unit s b).2) ((unit s b).2 - (unit s b).1) < r.2
    · rw [key, decide_eq_false (fun z => z (.inr c2)), if_neg Bool.false_ne_true] at h
      rw [decide_eq_true c2]
      exact h
    · have hw : wins r (unit s b) b = true := by
        rw [key]
        exact decide_eq_true (fun z => z.elim c1 c2)
      rw [hw, if_pos rfl] at h
      rw [decide_eq_false c2]
      dsimp only
      unfold rd_law_won_r0
      walk_at "rd"
      unfold wins won at hw
      cases b
      · simp at hw
        rw [decide_eq_false (by omega)]
        exact h
      · simp at hw
        rw [decide_eq_true (by omega)]
        exact h
theorem OpS.zero {r : Sc} (h : 1 ≤ r.2 ∧ r.2 ≤ r.1) : OpS r (0, 0) := by
  refine ⟨⟨Int.le_refl 0, Int.le_refl 0⟩, ?_, ?_⟩ <;>
  · unfold won
    rw [Bool.and_eq_false_iff, decide_eq_false_iff_not]
    left
    show ¬ r.1 ≤ 0
    omega
theorem OpS.unit {r s : Sc} {b : Bool} (h : OpS r s) (hr : 1 ≤ r.2 ∧ r.2 ≤ r.1) (hw : wins r (unit s b) b = false) : OpS r (unit s b) := by
  obtain ⟨h0, ha, hb⟩ := h
  unfold wins won at hw
  unfold won at ha hb
  rw [Bool.and_eq_false_iff, decide_eq_false_iff_not, decide_eq_false_iff_not] at ha hb
  unfold OpS won My.unit at *
  cases b
  · simp at hw ⊢
    refine ⟨⟨by omega, by omega⟩, ?_, ?_⟩ <;> intro <;> omega
  · simp at hw ⊢
    refine ⟨⟨by omega, by omega⟩, ?_, ?_⟩ <;> intro <;> omega
theorem OpL.step : ∀ (rs : Rl) (ss : List Sc) (b : Bool), rs.length = ss.length → Valid rs → OpL rs ss → (step rs ss b).2 = false → OpL rs (step rs ss b).1
  | [], ss, b, _, _, _, h => nomatch h
  | r :: rs, [], b, hl, _, _, _ => by simp at hl
  | r :: rs, s :: ss, b, hl, hv, ho, h => by
    have h1 : OpS r s := ho 0 r s rfl rfl
    have ht : OpL rs ss := fun i q t e1 e2 => ho (i + 1) q t e1 e2
    have hr := hv r (List.mem_cons_self ..)
    cases hw : wins r (unit s b) b with
    | false =>
      rw [step_no hw]
      intro i q t e1 e2
      cases i with
      | zero => cases e1; cases e2; exact h1.unit hr hw
      | succ i => exact ht i q t e1 e2
    | true =>
      cases rs with
      | nil =>
        have e : My.step [r] (s :: ss) b = (unit s b :: ss, true) := if_pos hw
        rw [e] at h; cases h
      | cons r2 rs =>
        have e : My.step (r :: r2 :: rs) (s :: ss) b = ((0, 0) :: (My.step (r2 :: rs) ss b).1, (My.step (r2 :: rs) ss b).2) := if_pos hw
        rw [e] at h ⊢
        have ih := OpL.step (r2 :: rs) ss b (by simpa using hl) (fun q m => hv q (List.mem_cons_of_mem _ m)) ht h
        intro i q t e1 e2
        cases i with
        | zero => cases e1; cases e2; exact OpS.zero hr
        | succ i => exact ih i q t e1 e2
theorem OpL.zeros {rs : Rl} (hv : Valid rs) : OpL rs (zeros rs) := fun i r s e1 e2 => by
  unfold My.zeros at e2
  rw [List.getElem?_map, e1] at e2
  cases e2
  exact OpS.zero (hv r (List.mem_of_getElem? e1))
theorem OpL.st {rs : Rl} (hv : Valid rs) : ∀ l, Opn rs l → OpL rs (st rs l) := by
  refine rev_ind (fun _ => OpL.zeros hv) fun l b ih h => ?_
  rw [st_snoc]
  exact OpL.step rs _ b (st_len rs l).symm hv (ih h.pre) (h l b [] rfl)

theorem ltE (b : Bool) : (abS [b] == Str.ofString "") = false := by cases b <;> decide +kernel
theorem emp : (Str.ofString "" == Str.ofString "") = true := by decide +kernel
theorem unitA (s : Sc) (b : Bool) : D.tup [.int (s.1 + if b = true then 1 else 0), .int (s.2 + if (!b) = true then 1 else 0)] = dpp (unit s b) := by
  unfold unit dpp dP
  cases b <;> simp
theorem m_law_played (ds : List D) (Q' : D → Prop) (E' : XD → Prop) (hl : ds.length = 3) (h : sp_law_played ds Q' E') : rd_law_played { nx := fun _ => Q' .non, rt := Q', ex := fun x _ => E' x } (startE ["laws_here", "who", "standing", "later", "at", "race", "one", "two"] ds) := by
  obtain ⟨rs, ss, b, rfl, hl, hn, hv, hop, h⟩ := h
  show rd_law_played _ [some (.lst false (rs.map dpp)), some (.str (abS [b])), some (.lst false (ss.map dpp)), none, none, none, none, none]
  unfold rd_law_played
  walk_at "rd"
  refine ⟨sz (by omega), ?_⟩
  unfold rd_law_played_r5
  walk_at "rd"
  refine ⟨by rw [enumD_len, List.length_map]; omega, ?_⟩
  refine rForL_inv (fun i env => ∃ f v4 v5 v6 v7, env = [some (.lst false (rs.map dpp)), some (.str (abS [b])), some (.lst false (ss.map dpp)), some (.lst true (f.map dpp)), v4, v5, v6, v7] ∧ AInv rs ss b i f) ⟨ss, none, none, none, none, rfl, AInv.start hl⟩ ?_ ?_
  · intro i d env K hi hI hK
    obtain ⟨f, v4, v5, v6, v7, rfl, hA⟩ := hI
    obtain ⟨x, hx, ed⟩ := enumD_at 0 _ i d hi
    rw [List.getElem?_map] at hx
    cases hp : rs[i]? with
    | none => rw [hp] at hx; cases hx
    | some r =>
      rw [hp] at hx
      have ex : dpp r = x := Option.some.inj hx
      subst ex ed
      have hir : i < rs.length := (List.getElem?_eq_some_iff.mp hp).1
      obtain ⟨s, hs⟩ : ∃ s, ss[i]? = some s := ⟨_, List.getElem?_eq_getElem (by omega)⟩
      have hlf := hA.1
      have hfs : f[i]? = some s := by
        rw [(hA.2.1 hir).1, List.getElem?_append_right (by simp), List.length_replicate, Nat.sub_self, List.getElem?_drop, Nat.add_zero]
        exact hs
      have hos := hop i r s hp hs
      have hrv := hv r (List.mem_of_getElem? hp)
      walk_at "rd"
      unfold rd_law_played_b3
      walk_at "rd"
      rw [atM hfs]
      dsimp only
      rw [show dpp s = D.tup [.int s.1, .int s.2] from rfl]
      walk_at "rd"
      unfold rd_law_played_r2
      walk_at "rd"
      simp only [ltA, ltB]
      rw [ixN_nat (by rw [hlf]; exact hir)]
      rw [unitA]
      refine ⟨sz2, ?_⟩
      dsimp only
      refine ⟨by rw [hlf]; exact hir, ?_⟩
      rw [← List.map_set]
      have hlf2 : (f.set i (unit s b)).length = rs.length := by rw [List.length_set, hlf]
      unfold rd_law_played_r1
      walk_at "rd"
      rw [atM (set_at (by rw [hlf]; exact hir)), show dpp (unit s b) = D.tup [.int (unit s b).1, .int (unit s b).2] from rfl]
      walk_at "rd"
      refine ⟨r, s, b, rfl, hrv, hos, ?_⟩
      cases hw : wins r (unit s b) b with
      | false =>
        rw [if_neg Bool.false_ne_true, show wnD none = D.str (Str.ofString "") from rfl]
        walk_at "rd"
        rw [hA.no hl hp hs hw, if_neg Bool.false_ne_true] at h
        rw [emp]
        exact ⟨sz2, h⟩
      | true =>
        rw [if_pos rfl, show wnD (some b) = D.str (abS [b]) from rfl]
        walk_at "rd"
        rw [ltE]
        dsimp only
        unfold rd_law_played_r0
        walk_at "rd"
        by_cases he : i + 1 < rs.length
        · rw [decide_eq_true (show (i : Int) + 1 < (rs.length : Int) from by omega)]
          walk_at "rd"
          rw [ixN_nat (by rw [hlf2]; exact hir)]
          refine ⟨sz2, by rw [hlf2]; exact hir, ?_⟩
          exact hK _ ⟨_, some (.int i), some (dpp r), some (.int s.1), some (.int s.2), by rw [List.map_set (l := f.set i (unit s b))]; rfl, hA.next hl hp hs hw he⟩
        · rw [decide_eq_false (show ¬ (i : Int) + 1 < (rs.length : Int) from by omega)]
          exact hK _ ⟨_, some (.int i), some (dpp r), some (.int s.1), some (.int s.2), rfl, hA.last hl hp hs hw (by omega)⟩
  · intro env hI
    obtain ⟨f, v4, v5, v6, v7, rfl, hA⟩ := hI
    rw [enumD_len, List.length_map] at hA
    dsimp only
    unfold rd_law_played_r4
    walk_at "rd"
    rw [hA.2.2 rfl, if_pos rfl] at h
    exact ⟨sz2, h⟩

end My

set_option Elab.async false
set_option linter.all false
set_option maxRecDepth 100000
set_option maxHeartbeats 2000000
namespace My
open PySem PySem.Spec PyProof.Rows L2 TT
local macro_rules | `(tactic| walk_at "rd") => `(tactic| simp only [rSeq, rRet, rMs0, rMs1, gAscii, gDigit, gSplit, gPart, gJoin, isS, gStrI, gIntS, gFmt, rFs3, gS, rOf, rvAnd, rvOr, rvNot, TT.r1, r2, rL, rCons, rNil, rVar, rK, r3, mask, frz, frzL, frzS, gLen, gEq, gNe, sm, smL, gTru, gIx, gLt, gLe, gGt, gGe, TT.gSub, gMod, gDiv, gPow, gNeg, gMul, gAdd, gII, gBl, aft, ow, owL, rAsg, gNm, gTp, gTpL, gsCons, gsNil, rPar, rIfS, rtNot, rtAnd, rtOr, rTru, rtC, rCall, rCallK, rCallO, rTupE, rLstE, rNext, rNever, rDrop, rMv, rIte, gMin2, gMax2, gMinL, gMaxL, gMm, gII1, gInt1, rRaise, gVal, rAugI, rPut, ixV, rDPut, ixD, gDIn, gDGet, gDisp1, riEnu, iEnu, gSlLo, gSlHi, rErr, rIsErrE, rErrVE, gErrV, rExtS, gReprA, gMulX, gSlLoX, gSlHiX, gSgn, rAugX, rAugL, rAugN, riEnuT, iEnuT, gSIx, gSlHiZ, gList, gTuple, gIsX, rPar3, rMenu, gMenu, rMt1, isL, gLCnt, gLIx, rAppN, List.length_map, rLc, blkE, rtYes, rBrk, rCont, Option.some_inj, gAbs, gIsN, gNotN, gIn, TT.isNon, rForR, rFor, riR1, riR2, riAny, iRg1, iRg2, iAny, rAppS, rPool, rForIt, pvV, pvIx, rGet2, gGet2, isT, gSum, gGcd, rInsS, pmt, List.filterMap_cons, List.filterMap_nil, List.getElem?_cons_zero, List.getElem?_cons_succ, List.length_cons, List.length_nil, List.set_cons_zero, List.set_cons_succ, Option.map_some, Option.map_none, atI_0, atI_1, atI_2, deq_int, deq_bl, deq_str, deq_non, Bool.not_true, Bool.not_false, Bool.false_and, Bool.and_false, List.nil_append, true_and, and_true, Bool.and_true, Bool.true_and, Nat.reduceAdd, Int.cast_ofNat_Int, Nat.zero_add, Int.reduceEq, decide_true, decide_false, if_true, if_false, ow_lt, ow_dpp, frz_dpp, frzL_dpp, frz_lt, owL_dpp])
theorem sz1m {n : Nat} (h : n ≤ 10 ^ 6) : n ≤ sizeLine := Nat.le_trans h (by decide)
theorem m_law_state (ds : List D) (Q' : D → Prop) (E' : XD → Prop) (hl : ds.length = 2) (h : sp_law_state ds Q' E') : rd_law_state { nx := fun _ => Q' .non, rt := Q', ex := fun x _ => E' x } (startE ["laws_here", "line_here", "winner", "standing", "at", "who"] ds) := by
  obtain ⟨rs, l, rfl, hn, m3, hv, h⟩ := h
  show rd_law_state _ [some (.lst false (rs.map dpp)), some (.str (abS l)), none, none, none, none]
  unfold rd_law_state
  walk_at "rd"
  refine ⟨sz (by decide), sz (by decide), ⟨by omega, by omega⟩, sz (by omega), ?_⟩
  rw [Int.toNat_natCast, zeros_map]
  unfold rd_law_state_r3
  walk_at "rd"
  refine ⟨by rw [enumD_len, strD_abS, List.length_map]; omega, ?_⟩
  rw [strD_abS]
  refine rForL_inv (fun i env => (∃ o v4 v5, env = [some (.lst false (rs.map dpp)), some (.str (abS l)), some (.str ""), some (.lst o ((st rs (l.take i)).map dpp)), v4, v5]) ∧ Opn rs (l.take i)) ⟨⟨true, none, none, rfl⟩, Opn.nil rs⟩ ?_ ?_
  · intro i d env K hi hI hK
    obtain ⟨⟨o, v4, v5, rfl⟩, hO2⟩ := hI
    obtain ⟨x, hx, ed⟩ := enumD_at 0 _ i d hi
    rw [List.getElem?_map] at hx
    cases hp : l[i]? with
    | none => rw [hp] at hx; cases hx
    | some b =>
      rw [hp] at hx
      have ex : lt b = x := Option.some.inj hx
      subst ex ed
      obtain ⟨e1, e2⟩ := split_i hp
      have hsl := st_len rs (l.take i)
      walk_at "rd"
      unfold rd_law_state_b1
      walk_at "rd"
      refine ⟨rs, st rs (l.take i), b, rfl, hsl.symm, hn, hv, OpL.st hv _ hO2, ?_⟩
      cases ho : (step rs (st rs (l.take i)) b).2 with
      | false =>
        rw [if_neg Bool.false_ne_true, show wnD none = D.str (Str.ofString "") from rfl]
        walk_at "rd"
        unfold rd_law_state_r0
        walk_at "rd"
        rw [emp]
        exact hK _ ⟨⟨false, some (.int i), some (lt b), by rw [e2, st_snoc]⟩, by rw [e2]; exact hO2.snoc ho⟩
      | true =>
        rw [if_pos rfl, show wnD (some b) = D.str (abS [b]) from rfl]
        walk_at "rd"
        unfold rd_law_state_r0
        walk_at "rd"
        rw [ltE]
        refine ⟨sz (by decide), ?_⟩
        rcases h with ⟨hO, _⟩ | ⟨p, c, el, hp2, hc, hQ⟩
        · have := hO _ b _ e1
          rw [ho] at this; cases this
        · -- the match is over here, so it is the end
          have il : i < l.length := (List.getElem?_eq_some_iff.mp hp).1
          have ll : l.length = p.length + 1 := by rw [el, List.length_append]; rfl
          have hip : i = p.length := by
            by_cases z : i = p.length
            · exact z
            · have hlt : i < p.length := by omega
              have hpi : p[i]? = some b := by rw [el, List.getElem?_append_left hlt] at hp; exact hp
              obtain ⟨f1, f2⟩ := split_i hpi
              have ht : l.take i = p.take i := by rw [el, List.take_append_of_le_length (by omega)]
              have := hp2 _ b _ f1
              rw [← ht, ho] at this; cases this
          subst hip
          have hb : c = b := by
            rw [el, List.getElem?_append_right (Nat.le_refl _), Nat.sub_self] at hp
            exact Option.some.inj hp
          subst hb
          have ht : l.take p.length = p := by rw [el, List.take_left]
          rw [el, st_snoc, List.length_append] at hQ
          rw [ht]
          exact hQ
  · intro env hI
    obtain ⟨⟨o, v4, v5, rfl⟩, hO⟩ := hI
    rw [enumD_len, List.length_map, List.take_of_length_le (Nat.le_refl _)] at *
    rcases h with ⟨_, h⟩ | ⟨p, c, el, hp2, hc, hQ⟩
    · try dsimp only
      unfold rd_law_state_r2
      walk_at "rd"
      have hb : (abS l).length = l.length := by simp [abS, Str.length]
      refine ⟨sz1m (by rw [hb]; omega), sz (by decide), ?_⟩
      rw [hb]
      exact h
    · have := hO p c [] el
      rw [hc] at this; cases this
theorem ab_at (z : Int) (h0 : 0 ≤ z) (h1 : z < 2) : ∃ b, atI (Str.ofString "AB").cps.toList z = some (ch b) := by
  have hz : z = 0 ∨ z = 1 := by omega
  rcases hz with rfl | rfl
  · exact ⟨true, by decide +kernel⟩
  · exact ⟨false, by decide +kernel⟩
theorem aaba (z : Int) (h0 : 0 ≤ z) (h1 : z < 4) : ∃ b, atI (Str.ofString "AABA").cps.toList z = some (ch b) := by
  have hz : z = 0 ∨ z = 1 ∨ z = 2 ∨ z = 3 := by omega
  rcases hz with rfl | rfl | rfl | rfl
  · exact ⟨true, by decide +kernel⟩
  · exact ⟨true, by decide +kernel⟩
  · exact ⟨false, by decide +kernel⟩
  · exact ⟨true, by decide +kernel⟩
theorem abbb (z : Int) (h0 : 0 ≤ z) (h1 : z < 4) : ∃ b, atI (Str.ofString "ABBB").cps.toList z = some (ch b) := by
  have hz : z = 0 ∨ z = 1 ∨ z = 2 ∨ z = 3 := by omega
  rcases hz with rfl | rfl | rfl | rfl
  · exact ⟨true, by decide +kernel⟩
  · exact ⟨false, by decide +kernel⟩
  · exact ⟨false, by decide +kernel⟩
  · exact ⟨false, by decide +kernel⟩
theorem four (b0 b1 b2 b3 : Bool) (z : Int) (h0 : 0 ≤ z) (h1 : z < 4) : ∃ b, atI [D.str { cps := #[ch b0] }, D.str { cps := #[ch b1] }, D.str { cps := #[ch b2] }, D.str { cps := #[ch b3] }] z = some (lt b) := by
  have hz : z = 0 ∨ z = 1 ∨ z = 2 ∨ z = 3 := by omega
  rcases hz with rfl | rfl | rfl | rfl
  · exact ⟨b0, rfl⟩
  · exact ⟨b1, rfl⟩
  · exact ⟨b2, rfl⟩
  · exact ⟨b3, rfl⟩
theorem m_law_line (ds : List D) (Q' : D → Prop) (E' : XD → Prop) (hl : ds.length = 3) (h : sp_law_line ds Q' E') : rd_law_line { nx := fun _ => Q' .non, rt := Q', ex := fun x _ => E' x } (startE ["pool", "laws_here", "most", "found", "standing", "way", "turn", "who", "winner", "later"] ds) := by
  obtain ⟨rs, most, rfl, hn, hv, hm, h⟩ := h
  show rd_law_line _ [some .bag, some (.lst false (rs.map dpp)), some (.int (most : Nat)), none, none, none, none, none, none, none]
  unfold rd_law_line
  walk_at "rd"
  refine ⟨sz2, sz (by decide), ⟨by omega, by omega⟩, sz (by omega), _, rfl, by decide, by decide, fun y y0 y1 => ?_⟩
  rw [Int.toNat_natCast, zeros_map]
  walk_at "rd"
  unfold rd_law_line_r7
  walk_at "rd"
  refine ⟨_, rfl, by omega, by omega, fun n n0 n1 => ?_⟩
  walk_at "rd"
  refine ⟨by omega, by omega, by rw [rngD_len]; omega, ?_⟩
  refine rForL_inv (fun i env => ∃ l o v6 v7 v8 v9, env = [some .bag, some (.lst false (rs.map dpp)), some (.int (most : Nat)), some (.str (abS l)), some (.lst o ((st rs l).map dpp)), some (.int y), v6, v7, v8, v9] ∧ Opn rs l ∧ l.length ≤ i ∧ i ≤ n.toNat) ⟨[], true, none, none, none, none, rfl, Opn.nil rs, Nat.zero_le _, Nat.zero_le _⟩ ?_ ?_
  · intro i d env K hi hI hK
    obtain ⟨l, o, v6, v7, v8, v9, rfl, hO, h2, h6⟩ := hI
    obtain ⟨e, il⟩ := rng_at hi
    subst e
    walk_at "rd"
    unfold rd_law_line_b5
    walk_at "rd"
    refine ⟨_, rfl, by decide, by decide, fun a a0 a1 => ?_⟩
    obtain ⟨b0, e0⟩ := ab_at a a0 a1
    dsimp only
    refine ⟨sz (by decide), ?_⟩
    rw [e0]
    dsimp only
    obtain ⟨b1, e1⟩ := ab_at ((0 + (i : Int)) % 2) (by omega) (by omega)
    refine ⟨by decide, sz (by decide), ?_⟩
    rw [e1]
    dsimp only
    refine ⟨_, rfl, by decide, by decide, fun c c0 c1 => ?_⟩
    obtain ⟨b2, e2⟩ := aaba c c0 c1
    dsimp only
    refine ⟨sz (by decide), ?_⟩
    rw [e2]
    dsimp only
    refine ⟨_, rfl, by decide, by decide, fun f f0 f1 => ?_⟩
    obtain ⟨b3, e3⟩ := abbb f f0 f1
    dsimp only
    refine ⟨sz (by decide), ?_⟩
    rw [e3]
    dsimp only
    refine ⟨sz (by decide), ?_⟩
    obtain ⟨b, hb⟩ := four b0 b1 b2 b3 y y0 y1
    rw [hb]
    rw [show lt b = D.str (abS [b]) from rfl]
    dsimp only
    walk_at "rd"
    have put : ∀ (o c : Bool) (v6 v8 : Option D), (step rs (st rs l) c).2 = false → rd_law_line_r2 { nx := K, rt := Q', bk := rd_law_line_r6 { nx := fun _ => Q' .non, rt := Q', ex := fun x _ => E' x }, ct := K, ex := fun x _ => E' x } [some .bag, some (.lst false (rs.map dpp)), some (.int (most : Nat)), some (.str (abS l)), some (.lst o ((st rs l).map dpp)), some (.int y), some (.int (0 + (i : Int))), some (.str (abS [c])), v8, some (.lst false ((step rs (st rs l) c).1.map dpp))] := by
      intro o c v6 v8 hw
      unfold rd_law_line_r2
      walk_at "rd"
      rw [← abS_app]
      refine ⟨sz1m (by rw [abS_len, abS_len, List.length_singleton]; omega), ?_⟩
      exact hK _ ⟨l ++ [c], _, _, _, _, _, by rw [st_snoc], hO.snoc hw, by rw [List.length_append, List.length_singleton]; omega, by omega⟩
    unfold rd_law_line_r4
    walk_at "rd"
    refine ⟨rs, st rs l, b, rfl, (st_len rs l).symm, hn, hv, OpL.st hv _ hO, ?_⟩
    cases hw : (step rs (st rs l) b).2 with
    | false =>
      rw [if_neg Bool.false_ne_true, show wnD none = D.str (Str.ofString "") from rfl]
      walk_at "rd"
      unfold rd_law_line_r3
      walk_at "rd"
      rw [emp]
      exact put _ b none _ hw
    | true =>
      rw [if_pos rfl, show wnD (some b) = D.str (abS [b]) from rfl]
      walk_at "rd"
      unfold rd_law_line_r3
      walk_at "rd"
      rw [ltE]
      walk_at "rd"
      have key : ∀ c v9, rd_law_line_r1 { nx := rd_law_line_r2 { nx := K, rt := Q', bk := rd_law_line_r6 { nx := fun _ => Q' .non, rt := Q', ex := fun x _ => E' x }, ct := K, ex := fun x _ => E' x }, rt := Q', bk := rd_law_line_r6 { nx := fun _ => Q' .non, rt := Q', ex := fun x _ => E' x }, ct := K, ex := fun x _ => E' x } [some .bag, some (.lst false (rs.map dpp)), some (.int (most : Nat)), some (.str (abS l)), some (.lst false ((st rs l).map dpp)), some (.int y), some (.int (0 + (i : Int))), some (.str (abS [c])), some (.str (abS [b])), v9] := by
        intro c v9
        unfold rd_law_line_r1
        walk_at "rd"
        refine ⟨rs, st rs l, c, rfl, (st_len rs l).symm, hn, hv, OpL.st hv _ hO, ?_⟩
        cases hw2 : (step rs (st rs l) c).2 with
        | false =>
          rw [if_neg Bool.false_ne_true, show wnD none = D.str (Str.ofString "") from rfl]
          walk_at "rd"
          unfold rd_law_line_r0
          walk_at "rd"
          rw [emp]
          exact put _ c none _ hw2
        | true =>
          rw [if_pos rfl, show wnD (some c) = D.str (abS [c]) from rfl]
          walk_at "rd"
          unfold rd_law_line_r0
          walk_at "rd"
          rw [ltE]
          exact h l hO (by omega)
      rw [show Str.ofString "A" = abS [true] by decide +kernel, show Str.ofString "B" = abS [false] by decide +kernel]
      cases b with
      | true => rw [if_pos rfl]; exact key _ _
      | false => rw [if_neg (by decide +kernel), if_pos rfl]; exact key _ _
  · intro env hI
    obtain ⟨l, o, v6, v7, v8, v9, rfl, hO, h2, h6⟩ := hI
    rw [rngD_len] at *
    dsimp only
    unfold rd_law_line_r6
    walk_at "rd"
    exact h l hO (by omega)
end My

set_option Elab.async false
set_option linter.all false
set_option maxRecDepth 100000
set_option maxHeartbeats 2000000
namespace My
open PySem PySem.Spec PyProof.Rows L2 TT
local macro_rules | `(tactic| walk_at "rd") => `(tactic| simp only [rSeq, rRet, rMs0, rMs1, gAscii, gDigit, gSplit, gPart, gJoin, isS, gStrI, gIntS, gFmt, rFs3, gS, rOf, rvAnd, rvOr, rvNot, TT.r1, r2, rL, rCons, rNil, rVar, rK, r3, mask, frz, frzL, frzS, gLen, gEq, gNe, sm, smL, gTru, gIx, gLt, gLe, gGt, gGe, TT.gSub, gMod, gDiv, gPow, gNeg, gMul, gAdd, gII, gBl, aft, ow, owL, rAsg, gNm, gTp, gTpL, gsCons, gsNil, rPar, rIfS, rtNot, rtAnd, rtOr, rTru, rtC, rCall, rCallK, rCallO, rTupE, rLstE, rNext, rNever, rDrop, rMv, rIte, gMin2, gMax2, gMinL, gMaxL, gMm, gII1, gInt1, rRaise, gVal, rAugI, rPut, ixV, rDPut, ixD, gDIn, gDGet, gDisp1, riEnu, iEnu, gSlLo, gSlHi, rErr, rIsErrE, rErrVE, gErrV, rExtS, gReprA, gMulX, gSlLoX, gSlHiX, gSgn, rAugX, rAugL, rAugN, riEnuT, iEnuT, gSIx, gSlHiZ, gList, gTuple, gIsX, rPar3, rMenu, gMenu, rMt1, isL, gLCnt, gLIx, rAppN, List.length_map, rLc, blkE, rtYes, rBrk, rCont, Option.some_inj, gAbs, gIsN, gNotN, gIn, TT.isNon, rForR, rFor, riR1, riR2, riAny, iRg1, iRg2, iAny, rAppS, rPool, rForIt, pvV, pvIx, rGet2, gGet2, isT, gSum, gGcd, rInsS, rTruD, gTruD, rFrz, riZip, riZipX, iZipL, iZipX, pmt, List.filterMap_cons, List.filterMap_nil, List.getElem?_cons_zero, List.getElem?_cons_succ, List.length_cons, List.length_nil, List.set_cons_zero, List.set_cons_succ, Option.map_some, Option.map_none, atI_0, atI_1, atI_2, deq_int, deq_bl, deq_str, deq_non, Bool.not_true, Bool.not_false, Bool.false_and, Bool.and_false, List.nil_append, List.cons_append, true_and, and_true, Bool.and_true, Bool.true_and, Nat.reduceAdd, Int.cast_ofNat_Int, Nat.zero_add, Int.reduceEq, decide_true, decide_false, if_true, if_false, ow_lt, ow_dpp, frz_dpp, frzL_dpp, frz_lt, owL_dpp])
def allW : Rl → List Sc → Bool → Bool
  | r :: rs, s :: ss, b => wins r (unit s b) b && allW rs ss b
  | _, _, _ => true
theorem up_allW (b : Bool) : ∀ (h : Nat) (rs : Rl) (p : List Bool), up (rs.take h) (p ++ [b]) = if allW (rs.take h) (opens rs p) b = true then up (rs.take h) p ++ [b] else up (rs.take h) p
  | 0, rs, p => by show p ++ [b] = if allW [] _ b = true then _ else _; rw [show allW [] (opens rs p) b = true from rfl, if_pos rfl]; rfl
  | h + 1, [], p => by show p ++ [b] = if allW [] _ b = true then _ else _; rw [show allW [] (opens [] p) b = true from rfl, if_pos rfl]; rfl
  | h + 1, r :: rs, p => by
    show up (rs.take h) (wn r (p ++ [b])) = if (wins r (unit (ln r p).2 b) b && allW (rs.take h) (opens rs (wn r p)) b) = true then up (rs.take h) (wn r p) ++ [b] else up (rs.take h) (wn r p)
    cases hw : wins r (unit (ln r p).2 b) b with
    | false =>
      rw [(wn_no hw).1, Bool.false_and, if_neg (by decide)]
    | true =>
      rw [(wn_yes hw).1, Bool.true_and]
      exact up_allW b h rs (wn r p)
theorem allW_snoc (b : Bool) : ∀ (rs : Rl) (ss : List Sc) (i : Nat) (r s : Sc), rs[i]? = some r → ss[i]? = some s → allW (rs.take (i + 1)) ss b = (allW (rs.take i) ss b && wins r (unit s b) b)
  | [], ss, i, r, s, h, _ => by simp at h
  | r0 :: rs, [], i, r, s, _, h => by simp at h
  | r0 :: rs, s0 :: ss, 0, r, s, h1, h2 => by
    have e1 : r0 = r := by simpa using h1
    have e2 : s0 = s := by simpa using h2
    subst e1 e2
    show (wins r0 (unit s0 b) b && allW [] ss b) = (true && _)
    rw [show allW [] ss b = true from rfl, Bool.and_true, Bool.true_and]
  | r0 :: rs, s0 :: ss, i + 1, r, s, h1, h2 => by
    show (wins r0 (unit s0 b) b && allW (rs.take (i + 1)) ss b) = ((wins r0 (unit s0 b) b && allW (rs.take i) ss b) && wins r (unit s b) b)
    rw [allW_snoc b rs ss i r s (by simpa using h1) (by simpa using h2), Bool.and_assoc]
theorem opens_at : ∀ {rs : Rl} {p : List Bool} {k : Nat} {r : Sc}, rs[k]? = some r → (opens rs p)[k]? = some (ln r (up (rs.take k) p)).2
  | [], p, k, r, h => by simp at h
  | r0 :: rs, p, 0, r, h => by cases h; rfl
  | r0 :: rs, p, k + 1, r, h => opens_at (rs := rs) (p := wn r0 p) (by simpa using h)
theorem pre_opn {rs : Rl} {l : List Bool} (h : Opn rs l ∨ Fin rs l) {i : Nat} (hi : i < l.length) : Opn rs (l.take i) := by
  rcases h with h | ⟨p, b, e, hp, _⟩
  · have e : l = l.take i ++ l.drop i := (List.take_append_drop i l).symm
    rw [e] at h
    exact h.pre
  · have hl : i ≤ p.length := by rw [e, List.length_append, List.length_singleton] at hi; omega
    rw [e, List.take_append_of_le_length hl]
    have e2 : p = p.take i ++ p.drop i := (List.take_append_drop i p).symm
    rw [e2] at hp
    exact hp.pre
theorem unit1 (s : Sc) (b : Bool) : s.1 + (if b = true then 1 else 0) = (unit s b).1 ∧ s.2 + (if (!b) = true then 1 else 0) = (unit s b).2 := by
  cases b
  · exact ⟨Int.add_zero _, rfl⟩
  · exact ⟨rfl, Int.add_zero _⟩
theorem bA (b : Bool) : (abS [b] == Str.ofString "A") = b := by cases b <;> decide +kernel
theorem bB (b : Bool) : (abS [b] == Str.ofString "B") = !b := by cases b <;> decide +kernel
theorem m_law_lined (ds : List D) (Q' : D → Prop) (E' : XD → Prop) (hl : ds.length = 3) (h : sp_law_lined ds Q' E') : rd_law_lined { nx := fun _ => Q' .non, rt := Q', ex := fun x _ => E' x } (startE ["laws_here", "line_here", "height", "found", "standing", "open_here", "who", "ended", "race", "pair", "one", "two"] ds) := by
  obtain ⟨rs, l, k, r, rfl, hn, hl5, hv, ho, hr, h⟩ := h
  have hk : k < rs.length := (List.getElem?_eq_some_iff.mp hr).1
  have hne : rs ≠ [] := fun e => by rw [e] at hk; cases hk
  have hrv := hv r (List.mem_of_getElem? hr)
  show rd_law_lined _ [some (.lst false (rs.map dpp)), some (.str (abS l)), some (.int (k : Nat)), none, none, none, none, none, none, none, none, none]
  unfold rd_law_lined
  walk_at "rd"
  refine ⟨Nat.zero_le _, sz (by decide), sz (by decide), ⟨by omega, by omega⟩, sz (by omega), ?_⟩
  rw [Int.toNat_natCast, zeros_map]
  unfold rd_law_lined_r11
  walk_at "rd"
  refine ⟨sz2, ?_⟩
  unfold rd_law_lined_r10
  walk_at "rd"
  rw [strD_abS]
  refine ⟨by rw [List.length_map]; omega, ?_⟩
  refine rForL_inv (fun i env => ∃ (o : Bool) (v6 v7 v8 v9 v10 v11 : Option D), env = [some (.lst false (rs.map dpp)), some (.str (abS l)), some (.int (k : Nat)), some (.lst true (((ln r (up (rs.take k) (l.take i))).1.map Prod.fst).map dpp)), some (.lst o ((st rs (l.take i)).map dpp)), some (dpp (ln r (up (rs.take k) (l.take i))).2), v6, v7, v8, v9, v10, v11]) ⟨true, none, none, none, none, none, none, by rw [List.take_zero, up_nil]; rfl⟩ ?_ ?_
  · intro i d env K hi hI hK
    obtain ⟨o, v6, v7, v8, v9, v10, v11, rfl⟩ := hI
    rw [List.getElem?_map] at hi
    cases hp : l[i]? with
    | none => rw [hp] at hi; cases hi
    | some b =>
      rw [hp] at hi
      have ex : lt b = d := Option.some.inj hi
      subst ex
      obtain ⟨e1, e2⟩ := split_i hp
      have il : i < l.length := (List.getElem?_eq_some_iff.mp hp).1
      have hO := pre_opn ho il
      have eo := (opn_opens hne _ hO).1
      have hsl := st_len rs (l.take i)
      have hOL := OpL.st hv _ hO
      rw [e2] at hK
      generalize l.take i = p at *
      walk_at "rd"
      unfold rd_law_lined_b8
      walk_at "rd"
      unfold rd_law_lined_r7
      walk_at "rd"
      rw [if_neg (by omega), Int.toNat_natCast, ← List.map_take, frzL_dpp]
      refine ⟨by omega, by rw [zipD_len, List.length_map, List.length_map, List.length_take]; omega, ?_⟩
      have e0 : allW (rs.take 0) (st rs p) b = true := by rw [List.take_zero]; rfl
      refine rForL_inv (fun j env => ∃ (v8 v9 v10 v11 : Option D), env = [some (.lst false (rs.map dpp)), some (.str (abS l)), some (.int (k : Nat)), some (.lst true (((ln r (up (rs.take k) p)).1.map Prod.fst).map dpp)), some (.lst false ((st rs p).map dpp)), some (dpp (ln r (up (rs.take k) p)).2), some (lt b), some (.int (if allW (rs.take j) (st rs p) b = true then (j : Nat) else -1)), v8, v9, v10, v11]) ⟨v8, v9, v10, v11, by rw [e0]; rfl⟩ ?_ ?_
      · intro j d env K2 hj hI hK2
        obtain ⟨v8, v9, v10, v11, rfl⟩ := hI
        obtain ⟨a, c, h1, h2, rfl⟩ := zipD_at hj
        rw [List.getElem?_map] at h1 h2
        have jk : j < k := by
          have := (List.getElem?_eq_some_iff.mp hj).1
          rw [zipD_len, List.length_map, List.length_take] at this
          omega
        rw [List.getElem?_take_of_lt jk] at h1
        cases hq : rs[j]? with
        | none => rw [hq] at h1; cases h1
        | some q =>
        cases hs : (st rs p)[j]? with
        | none => rw [hs] at h2; cases h2
        | some s =>
        rw [hq] at h1
        rw [hs] at h2
        have h1 : dpp q = a := Option.some.inj h1
        have h2 : dpp s = c := Option.some.inj h2
        subst h1 h2
        have OS := hOL j q s hq hs
        have hqv := hv q (List.mem_of_getElem? hq)
        have hsn := allW_snoc b rs (st rs p) j q s hq hs
        walk_at "rd"
        unfold rd_law_lined_b1
        rw [show lt b = D.str (abS [b]) from rfl, show dpp s = D.tup [.int s.1, .int s.2] from rfl]
        walk_at "rd"
        unfold rd_law_lined_r0
        walk_at "rd"
        simp only [bA, bB, (unit1 s b).1, (unit1 s b).2]
        have fin : ∀ e : Int, e = (if allW (rs.take (j + 1)) (st rs p) b = true then ((j + 1 : Nat) : Int) else -1) → K2 [some (.lst false (rs.map dpp)), some (.str (abS l)), some (.int (k : Nat)), some (.lst true (((ln r (up (rs.take k) p)).1.map Prod.fst).map dpp)), some (.lst false ((st rs p).map dpp)), some (dpp (ln r (up (rs.take k) p)).2), some (.str (abS [b])), some (.int e), some (dpp q), some (.tup [.int s.1, .int s.2]), some (.int (unit s b).1), some (.int (unit s b).2)] := fun e ee => by
          subst ee
          exact hK2 _ ⟨_, _, _, _, rfl⟩
        cases hA : allW (rs.take j) (st rs p) b with
        | false =>
          rw [hA, Bool.false_and] at hsn
          rw [if_neg Bool.false_ne_true, decide_eq_false (by decide)]
          exact fin _ (by rw [hsn]; rfl)
        | true =>
          rw [hA, Bool.true_and] at hsn
          rw [if_pos rfl, decide_eq_true (by omega)]
          refine ⟨q, s, b, rfl, hqv, OS, ?_⟩
          cases hw : wins q (unit s b) b with
          | false =>
            rw [hw] at hsn
            rw [if_neg Bool.false_ne_true]
            refine ⟨rfl, ?_⟩
            rw [show deq (wnD none) (D.str (Str.ofString "")) = true from by decide +kernel]
            exact fin _ (by rw [hsn]; rfl)
          | true =>
            rw [hw] at hsn
            rw [if_pos rfl]
            refine ⟨by cases b <;> rfl, ?_⟩
            rw [show deq (wnD (some b)) (D.str (Str.ofString "")) = false from by cases b <;> decide +kernel]
            exact fin _ (by rw [hsn]; rfl)
      · intro env hI
        obtain ⟨v8, v9, v10, v11, rfl⟩ := hI
        rw [zipD_len, List.length_map, List.length_map, List.length_take, hsl, Nat.min_eq_left (by omega), Nat.min_eq_left (by omega)]
        have hu := up_allW b k rs p
        rw [← eo] at hu
        have nxt : ∀ (w7 v8 v9 v10 v11 : Option D), rd_law_lined_r5 { nx := K, rt := Q', bk := rd_law_lined_r9 { nx := fun _ => Q' .non, rt := Q', ex := fun x _ => E' x }, ct := K, ex := fun x _ => E' x } [some (.lst false (rs.map dpp)), some (.str (abS l)), some (.int (k : Nat)), some (.lst true (((ln r (up (rs.take k) (p ++ [b]))).1.map Prod.fst).map dpp)), some (.lst false ((st rs p).map dpp)), some (dpp (ln r (up (rs.take k) (p ++ [b]))).2), some (.str (abS [b])), w7, v8, v9, v10, v11] := fun w7 v8 v9 v10 v11 => by
          unfold rd_law_lined_r5
          walk_at "rd"
          refine ⟨rs, st rs p, b, rfl, hsl.symm, hn, hv, hOL, ?_⟩
          rw [← st_snoc]
          walk_at "rd"
          exact hK _ ⟨_, _, _, _, _, _, _, rfl⟩
        dsimp only
        unfold rd_law_lined_r6
        rw [show lt b = D.str (abS [b]) from rfl]
        cases hA : allW (rs.take k) (st rs p) b with
        | false =>
          rw [hA, if_neg Bool.false_ne_true] at hu
          rw [if_neg Bool.false_ne_true]
          walk_at "rd"
          rw [decide_eq_false (by omega)]
          rw [hu] at nxt
          exact nxt _ _ _ _ _
        | true =>
          rw [hA, if_pos rfl] at hu
          rw [if_pos rfl]
          walk_at "rd"
          have hs := opens_at (p := p) hr
          rw [← eo] at hs
          have hlu := ln_snoc r (up (rs.take k) p) b
          rw [← hu] at hlu
          unfold lnF at hlu
          have OS := hOL k r _ hr hs
          generalize (ln r (up (rs.take k) p)).2 = s at *
          rw [atM hs, show dpp s = D.tup [.int s.1, .int s.2] from rfl]
          walk_at "rd"
          unfold rd_law_lined_r4
          walk_at "rd"
          simp only [bA, bB, (unit1 s b).1, (unit1 s b).2]
          refine ⟨sz2, ?_⟩
          unfold rd_law_lined_r3
          walk_at "rd"
          rw [atM hr]
          walk_at "rd"
          refine ⟨r, s, b, rfl, hrv, OS, ?_⟩
          have hwl := wn_len r (up (rs.take k) p)
          have hul := up_len (rs.take k) p
          have hpl : p.length ≤ l.length := by rw [e1, List.length_append]; omega
          unfold wn at hwl
          rw [List.length_map] at hwl
          cases hw : wins r (unit s b) b with
          | false =>
            rw [hw, if_neg Bool.false_ne_true] at hlu
            rw [if_neg Bool.false_ne_true]
            refine ⟨rfl, ?_⟩
            rw [show deq (wnD none) (D.str (Str.ofString "")) = true from by decide +kernel]
            rw [hlu] at nxt
            exact nxt _ _ _ _ _
          | true =>
            rw [hw, if_pos rfl] at hlu
            rw [if_pos rfl]
            refine ⟨by cases b <;> rfl, ?_⟩
            rw [show deq (wnD (some b)) (D.str (Str.ofString "")) = false from by cases b <;> decide +kernel]
            refine ⟨by rw [sizeLine_eq]; omega, ?_⟩
            unfold rd_law_lined_r2
            walk_at "rd"
            refine ⟨sz2, ?_⟩
            rw [hlu, List.map_append, List.map_append] at nxt
            exact nxt _ _ _ _ _
  · intro env hI
    obtain ⟨o, v6, v7, v8, v9, v10, v11, rfl⟩ := hI
    rw [List.length_map, List.take_of_length_le (Nat.le_refl _)]
    dsimp only
    unfold rd_law_lined_r9
    walk_at "rd"
    have hll := up_len (rs.take k) l
    have hw := wn_len r (up (rs.take k) l)
    unfold wn at hw
    rw [List.length_map] at hw
    unfold lnS tail0 at h
    generalize (ln r (up (rs.take k) l)).2 = s at *
    have fin : ∀ z : Int, z = (if s = (0, 0) then 0 else 1) → 1 ≤ sizeLine ∧ 2 ≤ sizeLine ∧ sm 64 (dpp s) = true ∧ ((-2 ^ 63 ≤ z) ∧ z < 2 ^ 63) ∧ 1 * z.toNat ≤ sizeLine ∧ (ln r (up (rs.take k) l)).1.length + (List.replicate z.toNat [dpp s]).flatten.length ≤ sizeLine ∧ Q' (.lst true (((ln r (up (rs.take k) l)).1.map Prod.fst).map dpp ++ (List.replicate z.toNat [dpp s]).flatten)) := fun z ez => by
      by_cases hz : s = (0, 0)
      · rw [if_pos hz, List.append_nil] at h
        rw [if_pos hz] at ez
        subst ez
        refine ⟨sz (by decide), sz2, rfl, ⟨by decide, by decide⟩, by decide, ?_, ?_⟩
        · show (ln r (up (rs.take k) l)).1.length + 0 ≤ sizeLine
          rw [sizeLine_eq]; omega
        · show Q' (.lst true (_ ++ []))
          rw [List.append_nil]
          exact h
      · rw [if_neg hz, List.map_append] at h
        rw [if_neg hz] at ez
        subst ez
        refine ⟨sz (by decide), sz2, rfl, ⟨by decide, by decide⟩, by decide, ?_, ?_⟩
        · show (ln r (up (rs.take k) l)).1.length + 1 ≤ sizeLine
          rw [sizeLine_eq]; omega
        · exact h
    refine fin _ ?_
    show (if (!deq (dpp s) (D.tup [D.int 0, D.int 0])) = true then (1 : Int) else 0) = _
    rw [deq_00]
    by_cases hz : s = (0, 0)
    · rw [decide_eq_true hz, if_pos hz]; rfl
    · rw [decide_eq_false hz, if_neg hz]; rfl
end My

set_option Elab.async false
set_option linter.all false
set_option maxRecDepth 100000
set_option maxHeartbeats 2000000
namespace My
open PySem PySem.Spec PyProof.Rows L2 TT
local macro_rules | `(tactic| walk_at "rd") => `(tactic| simp only [rSeq, rRet, rMs0, rMs1, gAscii, gDigit, gSplit, gPart, gJoin, isS, gStrI, gIntS, gFmt, rFs3, gS, rOf, rvAnd, rvOr, rvNot, TT.r1, r2, rL, rCons, rNil, rVar, rK, r3, mask, frz, frzL, frzS, gLen, gEq, gNe, sm, smL, gTru, gIx, gLt, gLe, gGt, gGe, TT.gSub, gMod, gDiv, gPow, gNeg, gMul, gAdd, gII, gBl, aft, ow, owL, rAsg, gNm, gTp, gTpL, gsCons, gsNil, rPar, rIfS, rtNot, rtAnd, rtOr, rTru, rtC, rCall, rCallK, rCallO, rTupE, rLstE, rNext, rNever, rDrop, rMv, rIte, gMin2, gMax2, gMinL, gMaxL, gMm, gII1, gInt1, rRaise, gVal, rAugI, rPut, ixV, rDPut, ixD, gDIn, gDGet, gDisp1, riEnu, iEnu, gSlLo, gSlHi, rErr, rIsErrE, rErrVE, gErrV, rExtS, gReprA, gMulX, gSlLoX, gSlHiX, gSgn, rAugX, rAugL, rAugN, riEnuT, iEnuT, gSIx, gSlHiZ, gList, gTuple, gIsX, rPar3, rMenu, gMenu, rMt1, isL, gLCnt, gLIx, rAppN, List.length_map, rLc, blkE, rtYes, rBrk, rCont, Option.some_inj, gAbs, gIsN, gNotN, gIn, TT.isNon, rForR, rFor, riR1, riR2, riAny, iRg1, iRg2, iAny, rAppS, rPool, rForIt, pvV, pvIx, rGet2, gGet2, isT, gSum, gGcd, rInsS, rTruD, gTruD, rFrz, riZip, riZipX, iZipL, iZipX, pmt, List.filterMap_cons, List.filterMap_nil, List.getElem?_cons_zero, List.getElem?_cons_succ, List.length_cons, List.length_nil, List.set_cons_zero, List.set_cons_succ, Option.map_some, Option.map_none, atI_0, atI_1, atI_2, deq_int, deq_bl, deq_str, deq_non, Bool.not_true, Bool.not_false, Bool.false_and, Bool.and_false, List.nil_append, List.cons_append, true_and, and_true, Bool.and_true, Bool.true_and, Nat.reduceAdd, Int.cast_ofNat_Int, Nat.zero_add, Int.reduceEq, decide_true, decide_false, if_true, if_false, ow_lt, ow_dpp, frz_dpp, frzL_dpp, frz_lt, owL_dpp])
theorem m_law_match_r2 {rs : Rl} {l : List Bool} {b o : Bool} {v2 v4 v5 v8 : Option D} {Q' : D → Prop} {K : Ev → Prop} {bk : Ev → Prop} {ex : XD → Ev → Prop} (hn : rs.length ≤ 10) (hv : Valid rs) (hO : Opn rs l) (hl : l.length ≤ 3200)
    (h : Fin rs (l ++ [b]) → Q' (.str (abS (l ++ [b]))))
    (hK : ∀ v5, Opn rs (l ++ [b]) → K [some .bag, some (.lst false (rs.map dpp)), v2, some (.str (abS (l ++ [b]))), v4, v5, some (.lst false ((st rs (l ++ [b])).map dpp)), some (lt b), v8]) :
    rd_law_match_r2 { nx := K, rt := Q', bk := bk, ct := K, ex := ex } [some .bag, some (.lst false (rs.map dpp)), v2, some (.str (abS l)), v4, v5, some (.lst o ((st rs l).map dpp)), some (lt b), v8] := by
  unfold rd_law_match_r2
  walk_at "rd"
  refine ⟨rs, st rs l, b, rfl, (st_len rs l).symm, hn, hv, OpL.st hv _ hO, ?_⟩
  rw [show lt b = D.str (abS [b]) from rfl] at *
  cases hw : (step rs (st rs l) b).2 with
  | false =>
    rw [if_neg Bool.false_ne_true, show wnD none = D.str (Str.ofString "") from rfl]
    walk_at "rd"
    unfold rd_law_match_r1
    walk_at "rd"
    rw [abS_len, abS_len, ← abS_app]
    refine ⟨szM (by rw [List.length_singleton]; omega), ?_⟩
    unfold rd_law_match_r0
    walk_at "rd"
    rw [emp]
    rw [← st_snoc]
    exact hK _ (hO.snoc hw)
  | true =>
    rw [if_pos rfl, show wnD (some b) = D.str (abS [b]) from rfl]
    walk_at "rd"
    unfold rd_law_match_r1
    walk_at "rd"
    rw [abS_len, abS_len, ← abS_app]
    refine ⟨szM (by rw [List.length_singleton]; omega), ?_⟩
    unfold rd_law_match_r0
    walk_at "rd"
    rw [ltE]
    exact h ⟨l, b, rfl, hO, hw⟩
theorem m_law_match (ds : List D) (Q' : D → Prop) (E' : XD → Prop) (hl : ds.length = 3) (h : sp_law_match ds Q' E') : rd_law_match { nx := fun _ => Q' .non, rt := Q', ex := fun x _ => E' x } (startE ["pool", "laws_here", "most", "line_here", "way", "winner", "standing", "who", "turn"] ds) := by
  obtain ⟨rs, rfl, hn, hv, h⟩ := h
  show rd_law_match _ [some .bag, some (.lst false (rs.map dpp)), some (.int 200), none, none, none, none, none, none]
  unfold rd_law_match
  walk_at "rd"
  refine ⟨rs, 200, rfl, hn, hv, by decide, fun l hO hll => ?_⟩
  refine ⟨_, rfl, by decide, by decide, fun y y0 y1 => ?_⟩
  walk_at "rd"
  unfold rd_law_match_r7
  walk_at "rd"
  refine ⟨rs, l, rfl, hn, by omega, hv, .inl ⟨hO, ?_⟩⟩
  walk_at "rd"
  refine ⟨_, rfl, by decide, by decide, fun z z0 z1 => ?_⟩
  obtain ⟨b, eb⟩ := ab_at z z0 z1
  dsimp only
  refine ⟨sz (by decide), ?_⟩
  rw [eb]
  walk_at "rd"
  unfold rd_law_match_r6
  walk_at "rd"
  refine ⟨by decide, by decide, by rw [rngD_len]; decide, ?_⟩
  refine rForL_inv (fun i env => ∃ (l : List Bool) (b o : Bool) (v5 v8 : Option D), env = [some .bag, some (.lst false (rs.map dpp)), some (.int 200), some (.str (abS l)), some (.int y), v5, some (.lst o ((st rs l).map dpp)), some (lt b), v8] ∧ Opn rs l ∧ l.length ≤ 200 + i) ⟨l, b, _, _, none, rfl, hO, by omega⟩ ?_ ?_
  · intro i d env K hi hI hK
    obtain ⟨l, b, o, v5, v8, rfl, hO, hli⟩ := hI
    obtain ⟨e, il⟩ := rng_at hi
    subst e
    have il : i < 3000 := il
    have go : ∀ (b : Bool), rd_law_match_r2 { nx := K, rt := Q', bk := _, ct := K, ex := fun x _ => E' x } [some .bag, some (.lst false (rs.map dpp)), some (.int 200), some (.str (abS l)), some (.int y), v5, some (.lst o ((st rs l).map dpp)), some (lt b), some (.int (0 + (i : Int)))] := fun b => m_law_match_r2 (bk := rd_law_match_r5 { nx := fun _ => Q' .non, rt := Q', ex := fun x _ => E' x }) hn hv hO (by omega) (fun hF => h _ (.inr hF) (by rw [List.length_append, List.length_singleton]; omega)) fun v5 hO2 => hK _ ⟨l ++ [b], b, false, v5, _, rfl, hO2, by rw [List.length_append, List.length_singleton]; omega⟩
    have third : ∀ (b : Bool), rd_law_match_r3 { nx := K, rt := Q', bk := rd_law_match_r5 { nx := fun _ => Q' .non, rt := Q', ex := fun x _ => E' x }, ct := K, ex := fun x _ => E' x } [some .bag, some (.lst false (rs.map dpp)), some (.int 200), some (.str (abS l)), some (.int y), v5, some (.lst o ((st rs l).map dpp)), some (lt b), some (.int (0 + (i : Int)))] := fun b => by
      unfold rd_law_match_r3
      walk_at "rd"
      split
      · split
        · obtain ⟨c, ec⟩ := ab_at ((0 + (i : Int)) % 2) (by omega) (by omega)
          refine ⟨by decide, sz (by decide), ?_⟩
          rw [ec]
          exact go c
        · exact go b
      · exact go b
    walk_at "rd"
    unfold rd_law_match_b4
    walk_at "rd"
    split
    · split
      · refine ⟨_, rfl, by decide, by decide, fun u u0 u1 => ?_⟩
        obtain ⟨c, ec⟩ := ab_at u u0 u1
        dsimp only
        refine ⟨sz (by decide), ?_⟩
        rw [ec]
        exact third c
      · exact third b
    · exact third b
  · intro env hI
    obtain ⟨l, b, o, v5, v8, rfl, hO, hli⟩ := hI
    rw [rngD_len] at hli
    have hli : l.length ≤ 200 + 3000 := hli
    unfold rd_law_match_r5
    walk_at "rd"
    exact h l (.inl hO) (by omega)
end My

set_option Elab.async false
set_option linter.all false
set_option maxRecDepth 100000
set_option maxHeartbeats 2000000
namespace My
open PySem PySem.Spec PyProof.Rows L2 TT
local macro_rules | `(tactic| walk_at "rd") => `(tactic| simp only [rSeq, rRet, rMs0, rMs1, gAscii, gDigit, gSplit, gPart, gJoin, isS, gStrI, gIntS, gFmt, rFs3, gS, rOf, rvAnd, rvOr, rvNot, TT.r1, r2, rL, rCons, rNil, rVar, rK, r3, mask, frz, frzL, frzS, gLen, gEq, gNe, sm, smL, gTru, gIx, gLt, gLe, gGt, gGe, TT.gSub, gMod, gDiv, gPow, gNeg, gMul, gAdd, gII, gBl, aft, ow, owL, rAsg, gNm, gTp, gTpL, gsCons, gsNil, rPar, rIfS, rtNot, rtAnd, rtOr, rTru, rtC, rCall, rCallK, rCallO, rTupE, rLstE, rNext, rNever, rDrop, rMv, rIte, gMin2, gMax2, gMinL, gMaxL, gMm, gII1, gInt1, rRaise, gVal, rAugI, rPut, ixV, rDPut, ixD, gDIn, gDGet, gDisp1, riEnu, iEnu, gSlLo, gSlHi, rErr, rIsErrE, rErrVE, gErrV, rExtS, gReprA, gMulX, gSlLoX, gSlHiX, gSgn, rAugX, rAugL, rAugN, riEnuT, iEnuT, gSIx, gSlHiZ, gList, gTuple, gIsX, rPar3, rMenu, gMenu, rMt1, isL, gLCnt, gLIx, rAppN, List.length_map, rLc, blkE, rtYes, rBrk, rCont, Option.some_inj, gAbs, gIsN, gNotN, gIn, TT.isNon, rForR, rFor, riR1, riR2, riAny, iRg1, iRg2, iAny, rAppS, rPool, rForIt, pvV, pvIx, rGet2, gGet2, isT, gSum, gGcd, rInsS, rTruD, gTruD, rFrz, riZip, riZipX, iZipL, iZipX, pmt, List.filterMap_cons, List.filterMap_nil, List.getElem?_cons_zero, List.getElem?_cons_succ, List.length_cons, List.length_nil, List.set_cons_zero, List.set_cons_succ, Option.map_some, Option.map_none, atI_0, atI_1, atI_2, deq_int, deq_bl, deq_str, deq_non, Bool.not_true, Bool.not_false, Bool.false_and, Bool.and_false, List.nil_append, List.cons_append, true_and, and_true, Bool.and_true, Bool.true_and, Nat.reduceAdd, Int.cast_ofNat_Int, Nat.zero_add, Int.reduceEq, decide_true, decide_false, if_true, if_false, ow_lt, ow_dpp, frz_dpp, frzL_dpp, frz_lt, owL_dpp, gReprG])
theorem wtL_dpp : ∀ ps : Rl, wtL (ps.map dpp) = 131 * ps.length
  | [] => rfl
  | p :: ps => by
    show wtD (dpp p) + 1 + wtL (ps.map dpp) = 131 * (ps.length + 1)
    rw [wtL_dpp ps, show wtD (dpp p) = 130 from rfl]
    omega
theorem smL_dpp (k : Nat) : ∀ ps : Rl, smL (k + 1) (ps.map dpp) = true
  | [] => rfl
  | p :: ps => by
    show (sm (k + 1) (dpp p) && smL (k + 1) (ps.map dpp)) = true
    rw [smL_dpp k ps]
    rfl
theorem okSL_dpp : ∀ {ps : Rl}, (∀ p ∈ ps, p.1.natAbs < 10 ^ 12 ∧ p.2.natAbs < 10 ^ 12) → okSL (ps.map dpp) = true
  | [], _ => rfl
  | p :: ps, h => by
    show ((decide (p.1.natAbs < 10 ^ 12) && (decide (p.2.natAbs < 10 ^ 12) && true)) && okSL (ps.map dpp)) = true
    have := h p List.mem_cons_self
    rw [okSL_dpp fun q m => h q (List.mem_cons_of_mem _ m), decide_eq_true this.1, decide_eq_true this.2]
    rfl
theorem strOk_ab (l : List Bool) : PyData.strOk (abS l) = true := by
  unfold PyData.strOk abS
  simp only [Array.all_eq_true_iff_forall_mem, List.mem_toArray, List.mem_map]
  rintro x ⟨b, _, rfl⟩
  cases b <;> decide
theorem eqL_dpp : ∀ xs : List Sc, PyData.eqvAll (pyL (xs.map dpp)) (pyL (xs.map dpp)) = true
  | [] => rfl
  | x :: xs => by
    show (deq (dpp x) (dpp x) && PyData.eqvAll (pyL (xs.map dpp)) (pyL (xs.map dpp))) = true
    rw [eqL_dpp xs, Bool.and_true]
    unfold dpp dP
    rw [deq_tup2, deq_int, deq_int, decide_eq_true rfl, decide_eq_true rfl]; rfl
theorem deqL (o o' : Bool) (xs : List Sc) : deq (.lst o (xs.map dpp)) (.lst o' (xs.map dpp)) = true := eqL_dpp xs
theorem ln_bd (r : Sc) : ∀ u : List Bool, ∀ e ∈ (ln r u).1, (0 ≤ e.1.1 ∧ 0 ≤ e.1.2) ∧ e.1.1 ≤ u.length ∧ e.1.2 ≤ u.length := by
  refine rev_ind (fun _ m => nomatch m) fun l b ih e m => ?_
  have h0 := ln_nn r l
  have h1 := ln_le r l
  rw [ln_snoc] at m
  unfold lnF at m
  rw [List.length_append, List.length_singleton]
  split at m
  · rcases List.mem_append.mp m with m | m
    · have := ih e m
      omega
    · rw [List.mem_singleton.mp m]
      unfold unit
      cases b <;> simp <;> omega
  · have := ih e m
    omega
theorem lnS_bd {r : Sc} {u : List Bool} {s : Sc} (m : s ∈ lnS r u) : (0 ≤ s.1 ∧ 0 ≤ s.2) ∧ s.1 ≤ u.length ∧ s.2 ≤ u.length := by
  unfold lnS at m
  rcases List.mem_append.mp m with m | m
  · obtain ⟨e, me, rfl⟩ := List.mem_map.mp m
    exact ln_bd r u e me
  · unfold tail0 at m
    split at m
    · cases m
    · rw [List.mem_singleton.mp m]
      exact ⟨ln_nn r u, ln_le r u⟩
theorem m_law_right_b4 {rs : Rl} {l : List Bool} {v2 v3 v4 v5 : Option D} {k : Nat} {Q' : D → Prop} {K : Ev → Prop} {bk : Ev → Prop} {ex : XD → Ev → Prop} (hV : Vld rs) (ho : Opn rs l ∨ Fin rs l) (hl : l.length ≤ 3200) (hk : k < rs.length)
    (hK : ∀ v3 v4 v5, K [some (.lst false (rs.map dpp)), some (.str (abS l)), v2, v3, v4, v5]) :
    rd_law_right_b4 { nx := K, rt := Q', bk := bk, ct := K, ex := ex } [some (.lst false (rs.map dpp)), some (.str (abS l)), v2, some (.int (k : Nat)), v4, v5] := by
  obtain ⟨hv, h12, hn⟩ := hV
  obtain ⟨r, hr⟩ : ∃ r, rs[k]? = some r := ⟨_, List.getElem?_eq_getElem hk⟩
  have hne : rs ≠ [] := fun e => by rw [e] at hk; cases hk
  have hul := up_len (rs.take k) l
  have hX := lnS_len r (up (rs.take k) l)
  have hB : ∀ s ∈ lnS r (up (rs.take k) l), s.1.natAbs < 10 ^ 12 ∧ s.2.natAbs < 10 ^ 12 := fun s m => by
    have := lnS_bd m
    omega
  unfold rd_law_right_b4
  walk_at "rd"
  refine ⟨rs, l, k, r, rfl, by omega, by omega, hv, ho, hr, ?_⟩
  generalize hXe : lnS r (up (rs.take k) l) = X at *
  walk_at "rd"
  unfold rd_law_right_r3
  walk_at "rd"
  refine ⟨rs, l, k, r, rfl, ⟨hne, by omega, by omega⟩, hv, ho, hr, ?_⟩
  rw [hXe]
  walk_at "rd"
  unfold rd_law_right_r2
  walk_at "rd"
  refine ⟨rs, l, k, r, rfl, ⟨hne, by omega, by omega⟩, hv, ho, hr, ?_⟩
  rw [hXe]
  have ok := okSL_dpp hB
  have s58 := smL_dpp 57 X
  have wt : wtL (X.map dpp) + 1 + (wtL (X.map dpp) + 1 + 0) ≤ 2 ^ 20 := by rw [wtL_dpp]; omega
  have okk : (okSL (X.map dpp) && (okSL (X.map dpp) && true)) = true := by rw [ok]; rfl
  walk_at "rd"
  refine ⟨sz2, rfl, ?_, okk, wt, sz2, rfl, ?_, okk, wt, ?_⟩
  · rw [s58]; rfl
  · rw [s58]; rfl
  rw [show shw (D.lst true [.lst false (X.map dpp), .lst true (X.map dpp)]) = shw (D.lst true [.lst false (X.map dpp), .lst false (X.map dpp)]) from rfl, show ∀ t : Str, (t == t) = true from fun t => by simp]
  walk_at "rd"
  unfold rd_law_right_r1
  walk_at "rd"
  refine ⟨sz2, by rw [sizeLine_eq]; omega, ?_⟩
  unfold rd_law_right_r0
  walk_at "rd"
  refine ⟨rs, l, k, r, rfl, ⟨hne, by omega, by omega⟩, hv, ho, hr, ?_⟩
  rw [hXe]
  refine ⟨smL_dpp 62 X, ?_⟩
  refine ⟨smL_dpp 62 X, ?_⟩
  rw [deqL]
  exact hK _ _ _
theorem m_law_right (ds : List D) (Q' : D → Prop) (E' : XD → Prop) (hl : ds.length = 2) (h : sp_law_right ds Q' E') : rd_law_right { nx := fun _ => Q' .non, rt := Q', ex := fun x _ => E' x } (startE ["laws_here", "line_here", "kept", "height", "due", "told"] ds) := by
  obtain ⟨rs, l, rfl, hV, ho, hll, h⟩ := h
  obtain ⟨hv, h12, hn⟩ := id hV
  have ok : okSL (rs.map dpp) = true := okSL_dpp fun p m => by
    have := hv p m
    have := h12 p m
    omega
  have okk : (okSL (rs.map dpp) && (PyData.strOk (abS l) && true)) = true := by rw [ok, strOk_ab]; rfl
  have ss : (smL 58 (rs.map dpp) && true) = true := by rw [smL_dpp 57]; rfl
  have wt : wtL (rs.map dpp) + 1 + ((abS l).cps.size + 1 + 0) ≤ 2 ^ 20 := by
    rw [wtL_dpp, show (abS l).cps.size = l.length from abS_len l]; omega
  show rd_law_right _ [some (.lst false (rs.map dpp)), some (.str (abS l)), none, none, none, none]
  unfold rd_law_right
  walk_at "rd"
  refine ⟨sz2, rfl, ?_, okk, wt, ?_⟩
  · first | exact ss | (rw [smL_dpp 57])
  unfold rd_law_right_r6
  walk_at "rd"
  refine ⟨by omega, by omega, by rw [rngD_len]; omega, ?_⟩
  refine rForL_inv (fun i env => ∃ (v3 v4 v5 : Option D), env = [some (.lst false (rs.map dpp)), some (.str (abS l)), some (.str (shw (.lst true [.lst false (rs.map dpp), .str (abS l)]))), v3, v4, v5]) ⟨none, none, none, rfl⟩ ?_ ?_
  · intro i d env K hi hI hK
    obtain ⟨v3, v4, v5, rfl⟩ := hI
    obtain ⟨e, il⟩ := rng_at hi
    subst e
    walk_at "rd"
    rw [show (0 : Int) + (i : Int) = ((i : Nat) : Int) by omega]
    exact m_law_right_b4 (v3 := none) hV ho hll (by simpa using il) fun v3 v4 v5 => hK _ ⟨v3, v4, v5, rfl⟩
  · intro env hI
    obtain ⟨v3, v4, v5, rfl⟩ := hI
    dsimp only
    unfold rd_law_right_r5
    walk_at "rd"
    refine ⟨sz2, rfl, ?_, okk, wt, ?_⟩
    · first | exact ss | (rw [smL_dpp 57])
    rw [show ∀ t : Str, (t == t) = true from fun t => by simp]
    exact h
end My

set_option Elab.async false
set_option linter.all false
set_option maxRecDepth 100000
set_option maxHeartbeats 2000000
namespace My
open PySem PySem.Spec PyProof.Rows L2 TT
local macro_rules | `(tactic| walk_at "rd") => `(tactic| simp only [rSeq, rRet, rMs0, rMs1, gAscii, gDigit, gSplit, gPart, gJoin, isS, gStrI, gIntS, gFmt, rFs3, gS, rOf, rvAnd, rvOr, rvNot, TT.r1, r2, rL, rCons, rNil, rVar, rK, r3, mask, frz, frzL, frzS, gLen, gEq, gNe, sm, smL, gTru, gIx, gLt, gLe, gGt, gGe, TT.gSub, gMod, gDiv, gPow, gNeg, gMul, gAdd, gII, gBl, aft, ow, owL, rAsg, gNm, gTp, gTpL, gsCons, gsNil, rPar, rIfS, rtNot, rtAnd, rtOr, rTru, rtC, rCall, rCallK, rCallO, rTupE, rLstE, rNext, rNever, rDrop, rMv, rIte, gMin2, gMax2, gMinL, gMaxL, gMm, gII1, gInt1, rRaise, gVal, rAugI, rPut, ixV, rDPut, ixD, gDIn, gDGet, gDisp1, riEnu, iEnu, gSlLo, gSlHi, rErr, rIsErrE, rErrVE, gErrV, rExtS, gReprA, gMulX, gSlLoX, gSlHiX, gSgn, rAugX, rAugL, rAugN, riEnuT, iEnuT, gSIx, gSlHiZ, gList, gTuple, gIsX, rPar3, rMenu, gMenu, rMt1, isL, gLCnt, gLIx, rAppN, List.length_map, rLc, blkE, rtYes, rBrk, rCont, Option.some_inj, gAbs, gIsN, gNotN, gIn, TT.isNon, rForR, rFor, riR1, riR2, riAny, iRg1, iRg2, iAny, rAppS, rPool, rForIt, pvV, pvIx, rGet2, gGet2, isT, gSum, gGcd, rInsS, rTruD, gTruD, rFrz, riZip, riZipX, iZipL, iZipX, pmt, List.filterMap_cons, List.filterMap_nil, List.getElem?_cons_zero, List.getElem?_cons_succ, List.length_cons, List.length_nil, List.set_cons_zero, List.set_cons_succ, Option.map_some, Option.map_none, atI_0, atI_1, atI_2, deq_int, deq_bl, deq_str, deq_non, Bool.not_true, Bool.not_false, Bool.false_and, Bool.and_false, List.nil_append, List.cons_append, true_and, and_true, Bool.and_true, Bool.true_and, Nat.reduceAdd, Int.cast_ofNat_Int, Nat.zero_add, Int.reduceEq, decide_true, decide_false, if_true, if_false, ow_lt, ow_dpp, frz_dpp, frzL_dpp, frz_lt, owL_dpp, gReprG])
def sp_law : Spt := fun ds Q _ => ∃ ns : List Int, ds = [.scr ns] ∧ ns.length ≤ 63 ∧ Q (.bl true)
theorem m_law_b2 {s0 v1 v4 v5 : Option D} {t : Nat} {K : Ev → Prop} {rt : D → Prop} {bk : Ev → Prop} {ex : XD → Ev → Prop}
    (hK : ∀ v4 v5, K [s0, v1, some .bag, some (.int (t : Nat)), v4, v5, none]) :
    rd_law_b2 { nx := K, rt := rt, bk := bk, ct := K, ex := ex } [s0, v1, some .bag, some (.int (t : Nat)), v4, v5, none] := by
  unfold rd_law_b2
  walk_at "rd"
  refine ⟨rfl, fun rs hV => ?_⟩
  obtain ⟨hv, h12, hn⟩ := id hV
  walk_at "rd"
  unfold rd_law_r1
  walk_at "rd"
  obtain ⟨m, em, hm⟩ : ∃ m : Nat, atI [D.int 30, D.int 400] (((t : Nat) : Int) % 2) = some (.int (m : Nat)) ∧ m ≤ 400 := by
    have : ((t : Nat) : Int) % 2 = 0 ∨ ((t : Nat) : Int) % 2 = 1 := by omega
    rcases this with e | e <;> rw [e]
    · exact ⟨30, rfl, by decide⟩
    · exact ⟨400, rfl, by decide⟩
  rw [em]
  refine ⟨sz2, by decide, rs, m, rfl, by omega, hv, hm, fun l hO hl => ?_⟩
  refine ⟨rs, rfl, by omega, hv, fun l2 ho2 hl2 => ⟨sz2, ?_⟩⟩
  show rd_law_r0 _ [s0, v1, some .bag, some (.int (t : Nat)), some (.lst true (rs.map dpp)), some (.lst true [.str (abS l), .str (abS l2)]), none]
  unfold rd_law_r0
  walk_at "rd"
  refine ⟨by decide, by decide, ?_⟩
  unfold rLcL
  walk_at "rd"
  refine ⟨rs, l, rfl, hV, .inl hO, by omega, ?_⟩
  unfold rLcL
  walk_at "rd"
  refine ⟨rs, l2, rfl, hV, ho2, hl2, ?_⟩
  unfold rLcL
  walk_at "rd"
  exact ⟨Nat.zero_le _, hK _ _⟩
theorem m_law (ds : List D) (Q' : D → Prop) (E' : XD → Prop) (hl : ds.length = 1) (h : sp_law ds Q' E') : rd_law { nx := fun _ => Q' .non, rt := Q', ex := fun x _ => E' x } (startE ["script", "at", "pool", "turn", "laws_here", "some", "line_here"] ds) := by
  obtain ⟨ns, rfl, hn, h⟩ := h
  show rd_law _ [some (.scr ns), none, none, none, none, none, none]
  unfold rd_law
  walk_at "rd"
  refine ⟨by omega, by omega, by rw [rngD_len]; omega, ?_⟩
  refine rForL_inv (fun _ env => ∃ v1 v2 v3 v4 v5, env = [some (.scr ns), v1, v2, v3, v4, v5, none]) ⟨none, none, none, none, none, rfl⟩ ?_ ?_
  · intro i dd env K hi hI hK
    obtain ⟨v1, v2, v3, v4, v5, rfl⟩ := hI
    obtain ⟨e, il⟩ := rng_at hi
    subst e
    walk_at "rd"
    unfold rd_law_b3
    walk_at "rd"
    refine ⟨ns, _, rfl, rfl, hn, by omega, by omega, by decide, by decide, by rw [rngD_len]; decide, ?_⟩
    refine rForL_inv (fun _ env => ∃ v3 v4 v5, env = [some (.scr ns), some (.int (0 + (i : Int))), some .bag, v3, v4, v5, none]) ⟨v3, v4, v5, rfl⟩ ?_ ?_
    · intro j d env K2 hj hI hK2
      obtain ⟨v3, v4, v5, rfl⟩ := hI
      obtain ⟨e, jl⟩ := rng_at hj
      subst e
      walk_at "rd"
      rw [show (0 : Int) + (j : Int) = ((j : Nat) : Int) by omega]
      exact m_law_b2 fun v4 v5 => hK2 _ ⟨_, v4, v5, rfl⟩
    · intro env hI
      obtain ⟨v3, v4, v5, rfl⟩ := hI
      try dsimp only
      try walk_at "rd"
      exact hK _ ⟨_, _, _, _, _, rfl⟩
  · intro env hI
    obtain ⟨v1, v2, v3, v4, v5, rfl⟩ := hI
    try dsimp only
    unfold rd_law_r4
    walk_at "rd"
    have eA : Str.ofString "AABABA" = abS [true, true, false, true, false, true] := by decide +kernel
    have o0 : Opn [(2, 1), (3, 1)] [true, true, false, true, false, true] := (((((((Opn.nil _).snoc (b := true) (by decide +kernel)).snoc (b := true) (by decide +kernel)).snoc (b := false) (by decide +kernel)).snoc (b := true) (by decide +kernel)).snoc (b := false) (by decide +kernel)).snoc (b := true) (by decide +kernel))
    rw [eA]
    refine ⟨sz2, sz2, sz2, [(2, 1), (3, 1)], [true, true, false, true, false, true], 0, (2, 1), rfl, ⟨by decide, by decide, by decide⟩, by unfold Valid; decide, .inl o0, rfl, ?_⟩
    rw [show lnS (2, 1) (up (List.take 0 [(2, 1), (3, 1)]) [true, true, false, true, false, true]) = [(2, 0), (1, 2), (1, 0)] from by decide +kernel]
    refine ⟨sz2, sz2, sz2, sz (by decide), by decide +kernel, ?_⟩
    rw [show deq (D.lst true (([(2, 0), (1, 2), (1, 0)] : List Sc).map dpp)) (D.lst true [D.tup [D.int 2, D.int 0], D.tup [D.int 1, D.int 2], D.tup [D.int 1, D.int 0]]) = true from deqL true true _]
    exact h
end My

set_option Elab.async false
set_option linter.all false
set_option maxRecDepth 100000
namespace My
open PySem PySem.Spec PyProof.Rows L2 TT
abbrev sPool : Stmt := topS 23
abbrev sDraw : Stmt := topS 24
theorem scDraw : FnScope ["pool", "many", "drawn", "mixed"] ["pool", "many"] (defScope sDraw) := ⟨rfl, rfl, rfl, by decide +kernel, rfl, by decide +kernel, by decide +kernel⟩
theorem scPool : FnScope ["script", "at", "cell"] ["script", "at"] (defScope sPool) := ⟨rfl, rfl, rfl, by decide +kernel, rfl, by decide +kernel, by decide +kernel⟩
section
variable {P : Program} {w : World} {K : PySem.W.Frag} {mg : Str → Option Value} {base : Heap} {b : Addr}
set_option maxHeartbeats 1000000
theorem ok_draw {f : Addr} {fd : FuncData} (F : Fun K "_law_draw" "_law_draw" sDraw f fd) : FnT P w K mg base (some (.three, b, b)) 1 1 f fd ["pool", "many"] spDraw := by
  refine okG F scDraw (fun vs H Q E h => h.len) (fun cdv A outer s H vs Q E hr hsp => ?_)
  obtain ⟨n, Z, ds, Q', E', p, r, hl, ⟨many, rfl, h0, h1, hq⟩, qc, x⟩ := hsp
  have hu := hu_of hr.toRoom
  obtain ⟨v1, us, f1, f2, e1, ⟨⟨k', b', q', eb, ev⟩, _⟩, r2, _⟩ := r
  cases eb
  have e2 := rpL1 r2
  subst ev e2 e1
  obtain ⟨_, dg, sd, tn, hb, d0, ⟨t0, t1⟩, ⟨s0, s1⟩⟩ := p.gd.bag
  have lm : n + 1 ≤ lim := p.le
  have lm2 : lim = 2 ^ 63 := rfl
  have tb : tn + 1 < 2 ^ 63 + 1 := by
    have : (n : Int) + 1 ≤ 2 ^ 63 := by exact_mod_cast (lm2 ▸ lm)
    omega
  refine ⟨_, pss_cons (ps_if (pt_cmpR op_gt (pe_ix ix_list (pv 0) pe_int (fun _ _ => rfl)) pe_int (nomark _))
      (pss_cons (ps_set (i := 2) scDraw.nd rfl (.inl rfl) (pe_op op_mod (pe_ix ix_list (pv 0) pe_int (fun _ _ => rfl)) (pv 1)))
      (pss_cons (ps_asg (pe_op op_fdivW (pe_ix ix_list (pv 0) pe_int (fun _ _ => rfl)) (pv 1)) (pg_sub (pv 0) pe_int set_list (by intro _; rfl)) rfl rfl rfl)
      (pss_one (ps_ret (pv 2))))) pss_nil)
    (pss_cons (ps_asg (pe_op op_add (pe_ix ix_list (pv 0) pe_int (fun _ _ => rfl)) pe_int) (pg_sub (pv 0) pe_int set_list (by intro _; rfl)) rfl rfl rfl)
    (pss_cons (ps_set (i := 3) scDraw.nd rfl (.inl rfl) (pe_op op_mod (pe_op op_powW (pe_op op_add (pe_ix ix_list (pv 0) pe_int (fun _ _ => rfl)) (pe_op op_mul pe_int (pe_ix ix_list (pv 0) pe_int (fun _ _ => rfl)))) pe_int) pe_int))
    (pss_cons (ps_set (i := 3) scDraw.nd rfl (.inl rfl) (pe_op op_mod (pe_op op_powW (pe_op op_add (pv 3) (pe_op op_mul pe_int (pe_ix ix_list (pv 0) pe_int (fun _ _ => rfl)))) pe_int) pe_int))
    (pss_one (ps_ret (pe_op op_mod (pe_op op_fdiv (pv 3) pe_int) (pv 1))))))), ?_⟩
  have fin : ∀ (dg' tn' : Int) (d : Int) (H2 : Hp), H2 b = some (.lst [.int dg', .int sd, .int tn']) → (∀ a, a ≠ b → H2 a = H a) → 0 ≤ dg' → 0 ≤ tn' → tn' ≤ (n : Int) + 1 → 0 ≤ d → d < many → Q (.int d) H2 := fun dg' tn' d H2 hb2 kp g0 u0 u1 d0 d1 =>
    draw_end p.gd (fun a h1 _ => kp a h1) ⟨rfl, dg', sd, tn', hb2, g0, ⟨u0, by push_cast; omega⟩, ⟨s0, s1⟩⟩ qc (hq d d0 d1)
  refine ⟨.ref b, rfl, b, _, 0, .int dg, rfl, rfl, SqL.of hb, atI_0 _ _, dg, 0, rfl, rfl, _, rfl, ite2 (fun hc => ?_) (fun hc => ?_)⟩
  · refine ⟨.ref b, rfl, b, _, 0, .int dg, rfl, rfl, SqL.of hb, atI_0 _ _, .int many, rfl, dg, many, rfl, rfl, h0, ?_⟩
    have hm : (many.natAbs : Int) < 2 ^ 200 := by omega
    refine ⟨.ref b, rfl, b, _, 0, .int dg, rfl, rfl, SqL.of hb, atI_0 _ _, .int many, rfl, dg, many, rfl, rfl, wide_div (b := 200) h0 (by exact_mod_cast hm) (by decide) (by decide), .ref b, rfl, b, _, 0, 0, rfl, rfl, hb, rfl, ?_⟩
    refine ⟨.int (dg % many), rfl, ?_⟩
    exact fin (dg / many) tn (dg % many) _ upd_same (fun a h => upd_ne h) (Int.ediv_nonneg d0 (by omega)) t0 (by omega) (Int.emod_nonneg _ (by omega)) (Int.emod_lt_of_pos _ h0)
  · refine ⟨.ref b, rfl, b, _, 2, .int tn, rfl, rfl, SqL.of hb, atI_2 _ _ _ _, tn, 1, rfl, rfl, .ref b, rfl, b, _, 2, 2, rfl, rfl, hb, rfl, ?_⟩
    have hb2 : (upd H b (.lst [.int dg, .int sd, .int (tn + 1)])) b = some (.lst [.int dg, .int sd, .int (tn + 1)]) := upd_same
    have c1 : (sd + 15498061 * (tn + 1)).natAbs < 2 ^ 120 := by omega
    refine ⟨.ref b, rfl, b, _, 1, .int sd, rfl, rfl, SqL.of hb2, atI_1 _ _ _, .ref b, rfl, b, _, 2, .int (tn + 1), rfl, rfl, SqL.of hb2, atI_2 _ _ _ _, 15498061, tn + 1, rfl, rfl, .inl ⟨by decide, by decide⟩, sd, 15498061 * (tn + 1), rfl, rfl,
      _, 3, rfl, rfl, powW_of (a := 120) (by decide) (by decide) c1 (by decide) (by decide), _, 162259276829213363391578010288127, rfl, rfl, (by show (0 : Int) < 162259276829213363391578010288127; decide), ?_⟩
    obtain ⟨m1, em1⟩ : ∃ m1 : Int, m1 = (sd + 15498061 * (tn + 1)) ^ (3 : Int).toNat % 162259276829213363391578010288127 := ⟨_, rfl⟩
    have b1 : 0 ≤ m1 := by rw [em1]; exact Int.emod_nonneg _ (by decide)
    have b2 : m1 < 162259276829213363391578010288127 := by rw [em1]; exact Int.emod_lt_of_pos _ (by decide)
    conv in ((fun i j => V.int (i % j)) _ _) => rw [show ((fun i j => V.int (i % j)) ((sd + 15498061 * (tn + 1)) ^ Int.toNat 3) 162259276829213363391578010288127) = V.int m1 from by rw [em1]]
    have c2 : (m1 + 32456819 * (tn + 1)).natAbs < 2 ^ 120 := by omega
    refine ⟨.int m1, rfl, .ref b, rfl, b, _, 2, .int (tn + 1), rfl, rfl, SqL.of hb2, atI_2 _ _ _ _, 32456819, tn + 1, rfl, rfl, .inl ⟨by decide, by decide⟩, m1, 32456819 * (tn + 1), rfl, rfl,
      _, 5, rfl, rfl, powW_of (a := 120) (by decide) (by decide) c2 (by decide) (by decide), _, 170141183460469231731687303715884105727, rfl, rfl, (by show (0 : Int) < 170141183460469231731687303715884105727; decide), ?_⟩
    refine ⟨_, rfl, _, 1048576, rfl, rfl, ⟨by decide, by decide⟩, .int many, rfl, _, many, rfl, rfl, h0, ?_⟩
    exact fin dg (tn + 1) _ _ upd_same (fun a h => upd_ne h) d0 (by omega) (by omega) (Int.emod_nonneg _ (by omega)) (Int.emod_lt_of_pos _ h0)
theorem pool_end {a : Addr} {H : Hp} {Q : VK} {c k : Int} (k0 : 0 ≤ k) (k1 : k < 2 ^ 20) (qf : ∀ (H' : Hp) (b : Addr), Same H H' → H b = none → BagOk (some (BK.three, b, b)) 0 H' → Q (V.ref b) H') :
    (tRet (tLst (tCons (tCB (fun xs H Q => ∃ i j, xs = [V.int i, V.int j] ∧ Q (V.int (if j > i then j else i)) H)
              (tCons (tC (V.int 0)) (tCons (tOp (rI0 fun i j => V.int (i - j)) (tCB (fun xs H Q => ∃ i, xs = [V.int i] ∧ Q (V.int (if i < 0 then -i else i)) H) (tCons (tVar 2) tNil)) (tOp (rI CPow fun i j => V.int (i ^ j.toNat)) (tC (V.int 10)) (tC (V.int 18)))) tNil)))
            (tCons (tOp (rI0 fun i j => V.int (i + j)) (tOp (rI (fun x j => 0 < j) fun i j => V.int (i % j)) (tVar 2) (tC (V.int 2305843009213693951))) (tOp (rI CMul fun i j => V.int (i * j)) (tC (V.int 2975831087)) (tOp (rI0 fun i j => V.int (i + j)) (tVar 1) (tC (V.int 1)))))
              (tCons (tC (V.int 0)) tNil)))))
    { nx := fun x H' => Q V.non H', rt := Q } [some (V.ref a), some (V.int k), some (V.int c)] H := by
  refine ⟨.int c, rfl, c, rfl, 10, 18, rfl, rfl, ⟨by decide, by decide, by decide⟩, _, _, rfl, rfl, 0, _, rfl, .int c, rfl, c, 2305843009213693951, rfl, rfl, (by show (0 : Int) < 2305843009213693951; decide), .int k, rfl, k, 1, rfl, rfl, 2975831087, k + 1, rfl, rfl, .inl ⟨by decide, by decide⟩, _, _, rfl, rfl, (by show 3 ≤ sizeLine; decide), fun l hl => ?_⟩
  have M0 : 0 ≤ c % 2305843009213693951 := Int.emod_nonneg _ (by decide)
  have M1 : c % 2305843009213693951 < 2305843009213693951 := Int.emod_lt_of_pos _ (by decide)
  refine qf _ l (fun b o e => by rw [upd_ne (ne_of_none e hl)]; exact e) hl ⟨rfl, _, _, 0, upd_same, ?_, ⟨by decide, by decide⟩, ?_, ?_⟩
  · split <;> omega
  · omega
  · omega
/-- the pool: of the script's number at this place, or of 0 -/
theorem ok_pool {f : Addr} {fd : FuncData} (F : Fun K "_law_pool" "_law_pool" sPool f fd) (mabs : mg "abs" = none) (mlen : mg "len" = none) (mmax : mg "max" = none) : FnOk P w K mg base (L2.CX P w) 1 f fd ["script", "at"] (spPool K) := by
  refine F.okX scPool (fun vs H Q E h => ?_) (fun cdv A outer s H vs Q E hr hsp => ?_)
  · obtain ⟨a, ns, k, rfl, _⟩ := h
    rfl
  obtain ⟨a, ns, k, rfl, ha, hl, k0, k1, qf⟩ := hsp
  have hu := hu_of hr
  refine ⟨_, pss_cons (ps_set (i := 2) scPool.nd rfl (.inl rfl) pe_int)
    (pss_cons (ps_if (pt_cmpR op_lt (pv 1) (pe_callB call_len_seq (by rfl) mlen PySem.boot_len (pa_cons (pv 0) pa_nil)) (nomark _))
      (pss_one (ps_set (i := 2) scPool.nd rfl (.inl rfl) (pe_ix ix_list (pv 0) (pv 1) (fun _ _ => rfl)))) pss_nil)
    (pss_one (ps_ret (pe_lst (pa_cons (pe_callB (call_max2 rfl) (by rfl) mmax boot_max (pa_cons pe_int (pa_cons (pe_op op_sub (pe_callB call_abs (by rfl) mabs (by decide +kernel) (pa_cons (pv 2) pa_nil)) (pe_op op_pow pe_int pe_int)) pa_nil)))
      (pa_cons (pe_op op_add (pe_op op_mod (pv 2) pe_int) (pe_op op_mul pe_int (pe_op op_add (pv 1) pe_int))) (pa_cons pe_int pa_nil))))))), ?_⟩
  refine ⟨.int k, rfl, .ref a, rfl, ⟨a, _, rfl, .inl ha.sql, k, _, rfl, rfl, _, rfl, ite2 (fun hc => ?_) (fun hc => ?_)⟩⟩
  · have hk : k < (ns.length : Int) := by
      rw [List.length_map] at hc
      exact of_decide_eq_true hc
    obtain ⟨j, rfl⟩ := Int.eq_ofNat_of_zero_le k0
    have hj : j < ns.length := by omega
    obtain ⟨c, ec⟩ : ∃ c : Int, ns[j]? = some c := ⟨_, List.getElem?_eq_getElem hj⟩
    refine ⟨.ref a, rfl, .int j, rfl, a, _, j, .int c, rfl, rfl, ha.sql, atI_nat (by rw [List.getElem?_map, ec]; rfl), ?_⟩
    exact pool_end (c := c) (by omega) k1 qf
  · exact pool_end (c := 0) k0 k1 qf
end
end My

set_option Elab.async false
set_option linter.all false
set_option maxRecDepth 100000
set_option maxHeartbeats 1000000
namespace My
open PySem PySem.Spec PyProof.Rows L2 TT

def spLaw (K : PySem.W.Frag) : Sp := fun vs H Q _ => ∃ (a : Addr) (ns : List Int), vs = [.ref a] ∧ ScrAt K H a (ns.map V.int) ∧ ns.length ≤ 63 ∧ ∀ H', Q (.bl true) H'
theorem law_of {P : Program} {w : World} {K : PySem.W.Frag} {mg : Str → Option Value} {base : Heap} {c k : Nat} {f : Addr} {fd : FuncData} (F : FnT P w K mg base none c k f fd ["script"] sp_law) (hc : c ≤ lim) : FnG P w K mg base (L2.CX P w) k f fd ["script"] (spLaw K) := by
  refine ⟨fun xs H Q E h => ?_, fun A up s H ar ws xs Q E r e b v q => F.run A up s H ar ws xs Q E r e b v ?_⟩
  · obtain ⟨a, ns, rfl, _⟩ := h
    rfl
  · obtain ⟨a, ns, rfl, hS, hl, q⟩ := q
    refine ⟨0, fun _ => False, [.scr ns], fun d => d = .bl true, fun _ => False, ⟨⟨trivial, fun _ z => z.elim, fun _ z => z.elim⟩, by omega⟩, ⟨.ref a, [], [], [], rfl, ⟨⟨a, rfl, hS⟩, rfl⟩, ⟨rfl, rfl⟩, rfl⟩, rfl, ⟨ns, rfl, hl, rfl⟩, fun d v fp Z' H' _ o e => ?_, fun _ _ _ _ _ _ _ z => z.elim⟩
    subst e
    have ev : v = .bl true := o.rp.1
    subst ev
    exact q _
theorem noCX {P : Program} {w : World} {H : Hp} {s : Shared} {e : Value} {s' : Shared} (h : L2.CX P w [] H s (fun _ _ _ => False) e s') : False := by
  obtain ⟨_, _, _, _, _, _, _, _, _, _, _, _, z⟩ := h
  exact z
theorem all_mk {l : PySem.W.OpenLaw} {w : World} {K : PySem.W.Frag} {h : Heap} {mg : Str → Option Value} {fa f0 f1 f2 f3 f4 f5 f6 f7 f8 f9 f10 f11 f12 f13 f14 f15 f16 f17 f18 f19 f20 f21 f22 f23 : Addr} (X : K.In h) (G : h.Ns mainGlobals mg) (hfa : mg "law" = some (.ref fa))
    {od0 an0 od1 an1 od2 an2 od3 an3 od4 an4 od5 an5 od6 an6 od7 an7 od8 an8 od9 an9 od10 an10 od11 an11 od12 an12 od13 an13 od14 an14 od15 an15 od16 an16 od17 an17 od18 an18 od19 an19 od20 an20 od21 an21 od22 an22 od23 an23 : Option Addr} {sl0 sl1 sl2 sl3 sl4 sl5 sl6 sl7 sl8 sl9 sl10 sl11 sl12 sl13 sl14 sl15 sl16 sl17 sl18 sl19 sl20 sl21 sl22 sl23 : Array (Option Value)} {oc0 kV0 dc0 pm0 cd0 ct0 oc1 kV1 dc1 pm1 cd1 ct1 oc2 kV2 dc2 pm2 cd2 ct2 oc3 kV3 dc3 pm3 cd3 ct3 oc4 kV4 dc4 pm4 cd4 ct4 oc5 kV5 dc5 pm5 cd5 ct5 oc6 kV6 dc6 pm6 cd6 ct6 oc7 kV7 dc7 pm7 cd7 ct7 oc8 kV8 dc8 pm8 cd8 ct8 oc9 kV9 dc9 pm9 cd9 ct9 oc10 kV10 dc10 pm10 cd10 ct10 oc11 kV11 dc11 pm11 cd11 ct11 oc12 kV12 dc12 pm12 cd12 ct12 oc13 kV13 dc13 pm13 cd13 ct13 oc14 kV14 dc14 pm14 cd14 ct14 oc15 kV15 dc15 pm15 cd15 ct15 oc16 kV16 dc16 pm16 cd16 ct16 oc17 kV17 dc17 pm17 cd17 ct17 oc18 kV18 dc18 pm18 cd18 ct18 oc19 kV19 dc19 pm19 cd19 ct19 oc20 kV20 dc20 pm20 cd20 ct20 oc21 kV21 dc21 pm21 cd21 ct21 oc22 kV22 dc22 pm22 cd22 ct22 oc23 kV23 dc23 pm23 cd23 ct23 : Value}
    (a0 : PySem.W.nsIn K mainGlobals "is_race" = some (some (.ref f0))) (l0 : K.lookup f0 = some ⟨oc0, od0, .func (PySem.W.fnOf "is_race" "is_race" (defArgs s_is_race) (defBody s_is_race) (defScope s_is_race) .none kV0 dc0 pm0 an0 cd0 ct0), sl0⟩) (c0 : PySem.W.codeIn K cd0 "is_race" = true) (k0 : PySem.W.keepIn K (.ref f0) = true)
    (a1 : PySem.W.nsIn K mainGlobals "has_won" = some (some (.ref f1))) (l1 : K.lookup f1 = some ⟨oc1, od1, .func (PySem.W.fnOf "has_won" "has_won" (defArgs s_has_won) (defBody s_has_won) (defScope s_has_won) .none kV1 dc1 pm1 an1 cd1 ct1), sl1⟩) (c1 : PySem.W.codeIn K cd1 "has_won" = true) (k1 : PySem.W.keepIn K (.ref f1) = true)
    (a2 : PySem.W.nsIn K mainGlobals "check_rule" = some (some (.ref f2))) (l2 : K.lookup f2 = some ⟨oc2, od2, .func (PySem.W.fnOf "check_rule" "check_rule" (defArgs s_check_rule) (defBody s_check_rule) (defScope s_check_rule) .none kV2 dc2 pm2 an2 cd2 ct2), sl2⟩) (c2 : PySem.W.codeIn K cd2 "check_rule" = true) (k2 : PySem.W.keepIn K (.ref f2) = true)
    (a3 : PySem.W.nsIn K mainGlobals "check_letters" = some (some (.ref f3))) (l3 : K.lookup f3 = some ⟨oc3, od3, .func (PySem.W.fnOf "check_letters" "check_letters" (defArgs s_check_letters) (defBody s_check_letters) (defScope s_check_letters) .none kV3 dc3 pm3 an3 cd3 ct3), sl3⟩) (c3 : PySem.W.codeIn K cd3 "check_letters" = true) (k3 : PySem.W.keepIn K (.ref f3) = true)
    (a4 : PySem.W.nsIn K mainGlobals "start_scores" = some (some (.ref f4))) (l4 : K.lookup f4 = some ⟨oc4, od4, .func (PySem.W.fnOf "start_scores" "start_scores" (defArgs s_start_scores) (defBody s_start_scores) (defScope s_start_scores) .none kV4 dc4 pm4 an4 cd4 ct4), sl4⟩) (c4 : PySem.W.codeIn K cd4 "start_scores" = true) (k4 : PySem.W.keepIn K (.ref f4) = true)
    (a5 : PySem.W.nsIn K mainGlobals "add_unit" = some (some (.ref f5))) (l5 : K.lookup f5 = some ⟨oc5, od5, .func (PySem.W.fnOf "add_unit" "add_unit" (defArgs s_add_unit) (defBody s_add_unit) (defScope s_add_unit) .none kV5 dc5 pm5 an5 cd5 ct5), sl5⟩) (c5 : PySem.W.codeIn K cd5 "add_unit" = true) (k5 : PySem.W.keepIn K (.ref f5) = true)
    (a6 : PySem.W.nsIn K mainGlobals "wins_race" = some (some (.ref f6))) (l6 : K.lookup f6 = some ⟨oc6, od6, .func (PySem.W.fnOf "wins_race" "wins_race" (defArgs s_wins_race) (defBody s_wins_race) (defScope s_wins_race) .none kV6 dc6 pm6 an6 cd6 ct6), sl6⟩) (c6 : PySem.W.codeIn K cd6 "wins_race" = true) (k6 : PySem.W.keepIn K (.ref f6) = true)
    (a7 : PySem.W.nsIn K mainGlobals "add_point" = some (some (.ref f7))) (l7 : K.lookup f7 = some ⟨oc7, od7, .func (PySem.W.fnOf "add_point" "add_point" (defArgs s_add_point) (defBody s_add_point) (defScope s_add_point) .none kV7 dc7 pm7 an7 cd7 ct7), sl7⟩) (c7 : PySem.W.codeIn K cd7 "add_point" = true) (k7 : PySem.W.keepIn K (.ref f7) = true)
    (a8 : PySem.W.nsIn K mainGlobals "walk" = some (some (.ref f8))) (l8 : K.lookup f8 = some ⟨oc8, od8, .func (PySem.W.fnOf "walk" "walk" (defArgs s_walk) (defBody s_walk) (defScope s_walk) .none kV8 dc8 pm8 an8 cd8 ct8), sl8⟩) (c8 : PySem.W.codeIn K cd8 "walk" = true) (k8 : PySem.W.keepIn K (.ref f8) = true)
    (a9 : PySem.W.nsIn K mainGlobals "play" = some (some (.ref f9))) (l9 : K.lookup f9 = some ⟨oc9, od9, .func (PySem.W.fnOf "play" "play" (defArgs s_play) (defBody s_play) (defScope s_play) .none kV9 dc9 pm9 an9 cd9 ct9), sl9⟩) (c9 : PySem.W.codeIn K cd9 "play" = true) (k9 : PySem.W.keepIn K (.ref f9) = true)
    (a10 : PySem.W.nsIn K mainGlobals "check_level" = some (some (.ref f10))) (l10 : K.lookup f10 = some ⟨oc10, od10, .func (PySem.W.fnOf "check_level" "check_level" (defArgs s_check_level) (defBody s_check_level) (defScope s_check_level) .none kV10 dc10 pm10 an10 cd10 ct10), sl10⟩) (c10 : PySem.W.codeIn K cd10 "check_level" = true) (k10 : PySem.W.keepIn K (.ref f10) = true)
    (a11 : PySem.W.nsIn K mainGlobals "lines_in" = some (some (.ref f11))) (l11 : K.lookup f11 = some ⟨oc11, od11, .func (PySem.W.fnOf "lines_in" "lines_in" (defArgs s_lines_in) (defBody s_lines_in) (defScope s_lines_in) .none kV11 dc11 pm11 an11 cd11 ct11), sl11⟩) (c11 : PySem.W.codeIn K cd11 "lines_in" = true) (k11 : PySem.W.keepIn K (.ref f11) = true)
    (a12 : PySem.W.nsIn K mainGlobals "lines_of" = some (some (.ref f12))) (l12 : K.lookup f12 = some ⟨oc12, od12, .func (PySem.W.fnOf "lines_of" "lines_of" (defArgs s_lines_of) (defBody s_lines_of) (defScope s_lines_of) .none kV12 dc12 pm12 an12 cd12 ct12), sl12⟩) (c12 : PySem.W.codeIn K cd12 "lines_of" = true) (k12 : PySem.W.keepIn K (.ref f12) = true)
    (a13 : PySem.W.nsIn K mainGlobals "_law_pool" = some (some (.ref f13))) (l13 : K.lookup f13 = some ⟨oc13, od13, .func (PySem.W.fnOf "_law_pool" "_law_pool" (defArgs sPool) (defBody sPool) (defScope sPool) .none kV13 dc13 pm13 an13 cd13 ct13), sl13⟩) (c13 : PySem.W.codeIn K cd13 "_law_pool" = true) (k13 : PySem.W.keepIn K (.ref f13) = true)
    (a14 : PySem.W.nsIn K mainGlobals "_law_draw" = some (some (.ref f14))) (l14 : K.lookup f14 = some ⟨oc14, od14, .func (PySem.W.fnOf "_law_draw" "_law_draw" (defArgs sDraw) (defBody sDraw) (defScope sDraw) .none kV14 dc14 pm14 an14 cd14 ct14), sl14⟩) (c14 : PySem.W.codeIn K cd14 "_law_draw" = true) (k14 : PySem.W.keepIn K (.ref f14) = true)
    (a15 : PySem.W.nsIn K mainGlobals "_law_rule" = some (some (.ref f15))) (l15 : K.lookup f15 = some ⟨oc15, od15, .func (PySem.W.fnOf "_law_rule" "_law_rule" (defArgs s__law_rule) (defBody s__law_rule) (defScope s__law_rule) .none kV15 dc15 pm15 an15 cd15 ct15), sl15⟩) (c15 : PySem.W.codeIn K cd15 "_law_rule" = true) (k15 : PySem.W.keepIn K (.ref f15) = true)
    (a16 : PySem.W.nsIn K mainGlobals "_law_won" = some (some (.ref f16))) (l16 : K.lookup f16 = some ⟨oc16, od16, .func (PySem.W.fnOf "_law_won" "_law_won" (defArgs s__law_won) (defBody s__law_won) (defScope s__law_won) .none kV16 dc16 pm16 an16 cd16 ct16), sl16⟩) (c16 : PySem.W.codeIn K cd16 "_law_won" = true) (k16 : PySem.W.keepIn K (.ref f16) = true)
    (a17 : PySem.W.nsIn K mainGlobals "_law_played" = some (some (.ref f17))) (l17 : K.lookup f17 = some ⟨oc17, od17, .func (PySem.W.fnOf "_law_played" "_law_played" (defArgs s__law_played) (defBody s__law_played) (defScope s__law_played) .none kV17 dc17 pm17 an17 cd17 ct17), sl17⟩) (c17 : PySem.W.codeIn K cd17 "_law_played" = true) (k17 : PySem.W.keepIn K (.ref f17) = true)
    (a18 : PySem.W.nsIn K mainGlobals "_law_state" = some (some (.ref f18))) (l18 : K.lookup f18 = some ⟨oc18, od18, .func (PySem.W.fnOf "_law_state" "_law_state" (defArgs s__law_state) (defBody s__law_state) (defScope s__law_state) .none kV18 dc18 pm18 an18 cd18 ct18), sl18⟩) (c18 : PySem.W.codeIn K cd18 "_law_state" = true) (k18 : PySem.W.keepIn K (.ref f18) = true)
    (a19 : PySem.W.nsIn K mainGlobals "_law_line" = some (some (.ref f19))) (l19 : K.lookup f19 = some ⟨oc19, od19, .func (PySem.W.fnOf "_law_line" "_law_line" (defArgs s__law_line) (defBody s__law_line) (defScope s__law_line) .none kV19 dc19 pm19 an19 cd19 ct19), sl19⟩) (c19 : PySem.W.codeIn K cd19 "_law_line" = true) (k19 : PySem.W.keepIn K (.ref f19) = true)
    (a20 : PySem.W.nsIn K mainGlobals "_law_lined" = some (some (.ref f20))) (l20 : K.lookup f20 = some ⟨oc20, od20, .func (PySem.W.fnOf "_law_lined" "_law_lined" (defArgs s__law_lined) (defBody s__law_lined) (defScope s__law_lined) .none kV20 dc20 pm20 an20 cd20 ct20), sl20⟩) (c20 : PySem.W.codeIn K cd20 "_law_lined" = true) (k20 : PySem.W.keepIn K (.ref f20) = true)
    (a21 : PySem.W.nsIn K mainGlobals "_law_match" = some (some (.ref f21))) (l21 : K.lookup f21 = some ⟨oc21, od21, .func (PySem.W.fnOf "_law_match" "_law_match" (defArgs s__law_match) (defBody s__law_match) (defScope s__law_match) .none kV21 dc21 pm21 an21 cd21 ct21), sl21⟩) (c21 : PySem.W.codeIn K cd21 "_law_match" = true) (k21 : PySem.W.keepIn K (.ref f21) = true)
    (a22 : PySem.W.nsIn K mainGlobals "_law_right" = some (some (.ref f22))) (l22 : K.lookup f22 = some ⟨oc22, od22, .func (PySem.W.fnOf "_law_right" "_law_right" (defArgs s__law_right) (defBody s__law_right) (defScope s__law_right) .none kV22 dc22 pm22 an22 cd22 ct22), sl22⟩) (c22 : PySem.W.codeIn K cd22 "_law_right" = true) (k22 : PySem.W.keepIn K (.ref f22) = true)
    (a23 : PySem.W.nsIn K mainGlobals "law" = some (some (.ref f23))) (l23 : K.lookup f23 = some ⟨oc23, od23, .func (PySem.W.fnOf "law" "law" (defArgs s_law) (defBody s_law) (defScope s_law) .none kV23 dc23 pm23 an23 cd23 ct23), sl23⟩) (c23 : PySem.W.codeIn K cd23 "law" = true) (k23 : PySem.W.keepIn K (.ref f23) = true)
    (z_enumerate : PySem.W.nsIn K mainGlobals "enumerate" = some none)
    (z_int : PySem.W.nsIn K mainGlobals "int" = some none)
    (z_len : PySem.W.nsIn K mainGlobals "len" = some none)
    (z_list : PySem.W.nsIn K mainGlobals "list" = some none)
    (z_max : PySem.W.nsIn K mainGlobals "max" = some none)
    (z_min : PySem.W.nsIn K mainGlobals "min" = some none)
    (z_range : PySem.W.nsIn K mainGlobals "range" = some none)
    (z_repr : PySem.W.nsIn K mainGlobals "repr" = some none)
    (z_zip : PySem.W.nsIn K mainGlobals "zip" = some none)
    (z_abs : PySem.W.nsIn K mainGlobals "abs" = some none)
    : ∃ fd : FuncData, (∀ (s : Shared) (v : Value), BindsTo s fd ⟨[v], []⟩ [("script", v)]) ∧ ∀ base : Heap, K.In base → base.Ns mainGlobals mg → FnG l.prog w K mg base (L2.CX l.prog w) 8 fa fd ["script"] (spLaw K) := by
  have e := hfa.symm.trans (PySem.W.mg_of X G a23)
  cases e
  have F0 := fun_mk (st := s_is_race) l0 c0 k0
  have b0 := F0.binds (ps := ["race"]) fun _ _ _ _ _ _ us hl => match us, hl with | [_], _ => rfl
  have F1 := fun_mk (st := s_has_won) l1 c1 k1
  have b1 := F1.binds (ps := ["race", "own", "other"]) fun _ _ _ _ _ _ us hl => match us, hl with | [_, _, _], _ => rfl
  have F2 := fun_mk (st := s_check_rule) l2 c2 k2
  have b2 := F2.binds (ps := ["rule"]) fun _ _ _ _ _ _ us hl => match us, hl with | [_], _ => rfl
  have F3 := fun_mk (st := s_check_letters) l3 c3 k3
  have b3 := F3.binds (ps := ["points"]) fun _ _ _ _ _ _ us hl => match us, hl with | [_], _ => rfl
  have F4 := fun_mk (st := s_start_scores) l4 c4 k4
  have b4 := F4.binds (ps := ["rule"]) fun _ _ _ _ _ _ us hl => match us, hl with | [_], _ => rfl
  have F5 := fun_mk (st := s_add_unit) l5 c5 k5
  have b5 := F5.binds (ps := ["score", "side"]) fun _ _ _ _ _ _ us hl => match us, hl with | [_, _], _ => rfl
  have F6 := fun_mk (st := s_wins_race) l6 c6 k6
  have b6 := F6.binds (ps := ["race", "score", "side"]) fun _ _ _ _ _ _ us hl => match us, hl with | [_, _, _], _ => rfl
  have F7 := fun_mk (st := s_add_point) l7 c7 k7
  have b7 := F7.binds (ps := ["rule", "scores", "side"]) fun _ _ _ _ _ _ us hl => match us, hl with | [_, _, _], _ => rfl
  have F8 := fun_mk (st := s_walk) l8 c8 k8
  have b8 := F8.binds (ps := ["rule", "points"]) fun _ _ _ _ _ _ us hl => match us, hl with | [_, _], _ => rfl
  have F9 := fun_mk (st := s_play) l9 c9 k9
  have b9 := F9.binds (ps := ["rule", "points"]) fun _ _ _ _ _ _ us hl => match us, hl with | [_, _], _ => rfl
  have F10 := fun_mk (st := s_check_level) l10 c10 k10
  have b10 := F10.binds (ps := ["rule", "level"]) fun _ _ _ _ _ _ us hl => match us, hl with | [_, _], _ => rfl
  have F11 := fun_mk (st := s_lines_in) l11 c11 k11
  have b11 := F11.binds (ps := ["race", "units"]) fun _ _ _ _ _ _ us hl => match us, hl with | [_, _], _ => rfl
  have F12 := fun_mk (st := s_lines_of) l12 c12 k12
  have b12 := F12.binds (ps := ["rule", "points", "level"]) fun _ _ _ _ _ _ us hl => match us, hl with | [_, _, _], _ => rfl
  have F13 := fun_mk (st := sPool) l13 c13 k13
  have b13 := F13.binds (ps := ["script", "at"]) fun _ _ _ _ _ _ us hl => match us, hl with | [_, _], _ => rfl
  have F14 := fun_mk (st := sDraw) l14 c14 k14
  have b14 := F14.binds (ps := ["pool", "many"]) fun _ _ _ _ _ _ us hl => match us, hl with | [_, _], _ => rfl
  have F15 := fun_mk (st := s__law_rule) l15 c15 k15
  have b15 := F15.binds (ps := ["pool", "levels", "product"]) fun _ _ _ _ _ _ us hl => match us, hl with | [_, _, _], _ => rfl
  have F16 := fun_mk (st := s__law_won) l16 c16 k16
  have b16 := F16.binds (ps := ["race", "one", "two"]) fun _ _ _ _ _ _ us hl => match us, hl with | [_, _, _], _ => rfl
  have F17 := fun_mk (st := s__law_played) l17 c17 k17
  have b17 := F17.binds (ps := ["laws_here", "who", "standing"]) fun _ _ _ _ _ _ us hl => match us, hl with | [_, _, _], _ => rfl
  have F18 := fun_mk (st := s__law_state) l18 c18 k18
  have b18 := F18.binds (ps := ["laws_here", "line_here"]) fun _ _ _ _ _ _ us hl => match us, hl with | [_, _], _ => rfl
  have F19 := fun_mk (st := s__law_line) l19 c19 k19
  have b19 := F19.binds (ps := ["pool", "laws_here", "most"]) fun _ _ _ _ _ _ us hl => match us, hl with | [_, _, _], _ => rfl
  have F20 := fun_mk (st := s__law_lined) l20 c20 k20
  have b20 := F20.binds (ps := ["laws_here", "line_here", "height"]) fun _ _ _ _ _ _ us hl => match us, hl with | [_, _, _], _ => rfl
  have F21 := fun_mk (st := s__law_match) l21 c21 k21
  have b21 := F21.binds (ps := ["pool", "laws_here", "most"]) fun _ _ _ _ _ _ us hl => match us, hl with | [_, _, _], _ => rfl
  have F22 := fun_mk (st := s__law_right) l22 c22 k22
  have b22 := F22.binds (ps := ["laws_here", "line_here"]) fun _ _ _ _ _ _ us hl => match us, hl with | [_, _], _ => rfl
  have F23 := fun_mk (st := s_law) l23 c23 k23
  have kb0 : KB K _ ["rule", "points", "level"] ["level", "points", "rule"] [2, 1, 0] := fun s ws _ hl => match ws, hl with | [_, _, _], _ => .of_eq (fd := PySem.W.fnOf "lines_of" "lines_of" (defArgs s_lines_of) (defBody s_lines_of) (defScope s_lines_of) .none kV12 dc12 pm12 an12 cd12 ct12) rfl
  have fx : Fx mg := ⟨PySem.W.mg_none_of X G z_enumerate, PySem.W.mg_none_of X G z_int, PySem.W.mg_none_of X G z_len, PySem.W.mg_none_of X G z_list, PySem.W.mg_none_of X G z_max, PySem.W.mg_none_of X G z_min, PySem.W.mg_none_of X G z_range, PySem.W.mg_none_of X G z_repr, PySem.W.mg_none_of X G z_zip⟩
  refine ⟨PySem.W.fnOf "law" "law" (defArgs s_law) (defBody s_law) (defScope s_law) .none kV23 dc23 pm23 an23 cd23 ct23, fun s v => .of_eq rfl, fun base _ _ => ?_⟩
  have C14 : ∀ b : Addr, CalT l.prog w K mg base (some (.three, b, b)) "_law_draw" 1 1 ["pool", "many"] spDraw := fun b => ⟨f14, _, ok_draw F14, PySem.W.mg_of X G a14, k14, b14⟩
  have C0 : ∀ G' : Bg, CalT l.prog w K mg base G' "is_race" 0 1 ["race"] sp_is_race := fun G' => ⟨f0, _, ok_is_race fx  F0 m_is_race, PySem.W.mg_of X G a0, k0, b0⟩
  have C1 : ∀ G' : Bg, CalT l.prog w K mg base G' "has_won" 0 1 ["race", "own", "other"] sp_has_won := fun G' => ⟨f1, _, ok_has_won fx  F1 m_has_won, PySem.W.mg_of X G a1, k1, b1⟩
  have C2 : ∀ G' : Bg, CalT l.prog w K mg base G' "check_rule" 0 2 ["rule"] sp_check_rule := fun G' => ⟨f2, _, ok_check_rule fx (C0 G') F2 m_check_rule, PySem.W.mg_of X G a2, k2, b2⟩
  have C3 : ∀ G' : Bg, CalT l.prog w K mg base G' "check_letters" 0 1 ["points"] sp_check_letters := fun G' => ⟨f3, _, ok_check_letters fx  F3 m_check_letters, PySem.W.mg_of X G a3, k3, b3⟩
  have C4 : ∀ G' : Bg, CalT l.prog w K mg base G' "start_scores" 0 1 ["rule"] sp_start_scores := fun G' => ⟨f4, _, ok_start_scores fx  F4 m_start_scores, PySem.W.mg_of X G a4, k4, b4⟩
  have C5 : ∀ G' : Bg, CalT l.prog w K mg base G' "add_unit" 0 1 ["score", "side"] sp_add_unit := fun G' => ⟨f5, _, ok_add_unit fx  F5 m_add_unit, PySem.W.mg_of X G a5, k5, b5⟩
  have C6 : ∀ G' : Bg, CalT l.prog w K mg base G' "wins_race" 0 2 ["race", "score", "side"] sp_wins_race := fun G' => ⟨f6, _, ok_wins_race fx (C1 G') F6 m_wins_race, PySem.W.mg_of X G a6, k6, b6⟩
  have C7 : ∀ G' : Bg, CalT l.prog w K mg base G' "add_point" 0 3 ["rule", "scores", "side"] sp_add_point := fun G' => ⟨f7, _, ok_add_point fx (C5 G') (C6 G') F7 m_add_point, PySem.W.mg_of X G a7, k7, b7⟩
  have C8 : ∀ G' : Bg, CalT l.prog w K mg base G' "walk" 0 4 ["rule", "points"] sp_walk := fun G' => ⟨f8, _, ok_walk fx (C7 G') (C4 G') F8 m_walk, PySem.W.mg_of X G a8, k8, b8⟩
  have C9 : ∀ G' : Bg, CalT l.prog w K mg base G' "play" 0 5 ["rule", "points"] sp_play := fun G' => ⟨f9, _, ok_play fx (C3 G') (C2 G') (C8 G') F9 m_play, PySem.W.mg_of X G a9, k9, b9⟩
  have C10 : ∀ G' : Bg, CalT l.prog w K mg base G' "check_level" 0 1 ["rule", "level"] sp_check_level := fun G' => ⟨f10, _, ok_check_level fx  F10 m_check_level, PySem.W.mg_of X G a10, k10, b10⟩
  have C11 : ∀ G' : Bg, CalT l.prog w K mg base G' "lines_in" 0 3 ["race", "units"] sp_lines_in := fun G' => ⟨f11, _, ok_lines_in fx (C5 G') (C6 G') F11 m_lines_in, PySem.W.mg_of X G a11, k11, b11⟩
  have C12 : ∀ G' : Bg, CalT l.prog w K mg base G' "lines_of" 0 6 ["rule", "points", "level"] sp_lines_of := fun G' => ⟨f12, _, ok_lines_of fx (C10 G') (C11 G') (C9 G') F12 m_lines_of, PySem.W.mg_of X G a12, k12, b12⟩
  have CK0 : ∀ G' : Bg, CalK l.prog w K mg base G' "lines_of" 0 6 ["rule", "points", "level"] ["level", "points", "rule"] [2, 1, 0] sp_lines_of := fun G' => ⟨f12, _, ok_lines_of fx (C10 G') (C11 G') (C9 G') F12 m_lines_of, PySem.W.mg_of X G a12, k12, kb0⟩
  have C15 : ∀ b : Addr, CalT l.prog w K mg base (some (.three, b, b)) "_law_rule" 13 2 ["pool", "levels", "product"] sp_law_rule := fun b => ⟨f15, _, ok__law_rule fx (C14 b) F15 m_law_rule, PySem.W.mg_of X G a15, k15, b15⟩
  have C16 : ∀ G' : Bg, CalT l.prog w K mg base G' "_law_won" 0 1 ["race", "one", "two"] sp_law_won := fun G' => ⟨f16, _, ok__law_won fx  F16 m_law_won, PySem.W.mg_of X G a16, k16, b16⟩
  have C17 : ∀ G' : Bg, CalT l.prog w K mg base G' "_law_played" 0 2 ["laws_here", "who", "standing"] sp_law_played := fun G' => ⟨f17, _, ok__law_played fx (C16 G') F17 m_law_played, PySem.W.mg_of X G a17, k17, b17⟩
  have C18 : ∀ G' : Bg, CalT l.prog w K mg base G' "_law_state" 0 3 ["laws_here", "line_here"] sp_law_state := fun G' => ⟨f18, _, ok__law_state fx (C17 G') F18 m_law_state, PySem.W.mg_of X G a18, k18, b18⟩
  have C19 : ∀ b : Addr, CalT l.prog w K mg base (some (.three, b, b)) "_law_line" 1202 3 ["pool", "laws_here", "most"] sp_law_line := fun b => ⟨f19, _, ok__law_line fx (C14 b) (C17 (some (.three, b, b))) F19 m_law_line, PySem.W.mg_of X G a19, k19, b19⟩
  have C20 : ∀ G' : Bg, CalT l.prog w K mg base G' "_law_lined" 0 3 ["laws_here", "line_here", "height"] sp_law_lined := fun G' => ⟨f20, _, ok__law_lined fx (C17 G') (C16 G') F20 m_law_lined, PySem.W.mg_of X G a20, k20, b20⟩
  have C21 : ∀ b : Addr, CalT l.prog w K mg base (some (.three, b, b)) "_law_match" 4204 4 ["pool", "laws_here", "most"] sp_law_match := fun b => ⟨f21, _, ok__law_match fx (C14 b) (C19 b) (C17 (some (.three, b, b))) (C18 (some (.three, b, b))) F21 m_law_match, PySem.W.mg_of X G a21, k21, b21⟩
  have C22 : ∀ G' : Bg, CalT l.prog w K mg base G' "_law_right" 0 7 ["laws_here", "line_here"] sp_law_right := fun G' => ⟨f22, _, ok__law_right fx (C20 G') (C12 G') (CK0 G') F22 m_law_right, PySem.W.mg_of X G a22, k22, b22⟩
  exact law_of (ok_law (P := l.prog) (w := w) (K := K) (mg := mg) (base := base) fx (ok_pool F13 (PySem.W.mg_none_of X G z_abs) (PySem.W.mg_none_of X G z_len) (PySem.W.mg_none_of X G z_max)) (PySem.W.mg_of X G a13) k13 b13 (fun b => (C19 b)) (fun b => (C21 b)) (fun b => (C22 (some (.three, b, b)))) (fun b => (C15 b)) (C12 none) F23 m_law) (by decide)
end My
open PySem PySem.W PyProof.Rows
set_option maxHeartbeats 0 in
theorem PySem.Challenge.cw_winbytwo_k45_lines_of_strings_holds : PySem.Challenge.rw_winbytwo_k45_lines_of_strings.Holds := by
  w_on; o_law; k_head; (case hw => w_witness2)
  k_fill
  refine TT.walk_g (l := PySem.Challenge.rw_winbytwo_k45_lines_of_strings) (n := 63) (k := 8) (x := "script") (T := fun w => L2.CX PySem.Challenge.rw_winbytwo_k45_lines_of_strings.prog w) (sp := fun w => My.spLaw _) rfl (by decide) rfl ⟨⟨rfl, by decide, by decide⟩, rfl⟩ (fun w h Y => PySem.W.kIn_of Y) ?F (fun _ H a ns hl on hS => ⟨a, ns, rfl, TT.ScrAt.of hS (fun xs e => by rcases on a with z | ⟨o, ys, z⟩ <;> rw [z] at e <;> cases e), hl, fun _ => rfl⟩) (fun _ _ _ _ _ h => My.noCX h)
  case F =>
    intro w mg fa h KX G hmg
    refine' My.all_mk KX G hmg ?a0 ?l0 ?c0 ?k0 ?a1 ?l1 ?c1 ?k1 ?a2 ?l2 ?c2 ?k2 ?a3 ?l3 ?c3 ?k3 ?a4 ?l4 ?c4 ?k4 ?a5 ?l5 ?c5 ?k5 ?a6 ?l6 ?c6 ?k6 ?a7 ?l7 ?c7 ?k7 ?a8 ?l8 ?c8 ?k8 ?a9 ?l9 ?c9 ?k9 ?a10 ?l10 ?c10 ?k10 ?a11 ?l11 ?c11 ?k11 ?a12 ?l12 ?c12 ?k12 ?a13 ?l13 ?c13 ?k13 ?a14 ?l14 ?c14 ?k14 ?a15 ?l15 ?c15 ?k15 ?a16 ?l16 ?c16 ?k16 ?a17 ?l17 ?c17 ?k17 ?a18 ?l18 ?c18 ?k18 ?a19 ?l19 ?c19 ?k19 ?a20 ?l20 ?c20 ?k20 ?a21 ?l21 ?c21 ?k21 ?a22 ?l22 ?c22 ?k22 ?a23 ?l23 ?c23 ?k23 ?z_enumerate ?z_int ?z_len ?z_list ?z_max ?z_min ?z_range ?z_repr ?z_zip ?z_abs
    (case a0 => k_is); (case l0 => k_is); (case c0 => k_is); (case k0 => k_is); (case a1 => k_is); (case l1 => k_is); (case c1 => k_is); (case k1 => k_is); (case a2 => k_is); (case l2 => k_is); (case c2 => k_is); (case k2 => k_is); (case a3 => k_is); (case l3 => k_is); (case c3 => k_is); (case k3 => k_is); (case a4 => k_is); (case l4 => k_is); (case c4 => k_is); (case k4 => k_is); (case a5 => k_is); (case l5 => k_is); (case c5 => k_is); (case k5 => k_is); (case a6 => k_is); (case l6 => k_is); (case c6 => k_is); (case k6 => k_is); (case a7 => k_is); (case l7 => k_is); (case c7 => k_is); (case k7 => k_is); (case a8 => k_is); (case l8 => k_is); (case c8 => k_is); (case k8 => k_is); (case a9 => k_is); (case l9 => k_is); (case c9 => k_is); (case k9 => k_is); (case a10 => k_is); (case l10 => k_is); (case c10 => k_is); (case k10 => k_is); (case a11 => k_is); (case l11 => k_is); (case c11 => k_is); (case k11 => k_is); (case a12 => k_is); (case l12 => k_is); (case c12 => k_is); (case k12 => k_is); (case a13 => k_is); (case l13 => k_is); (case c13 => k_is); (case k13 => k_is); (case a14 => k_is); (case l14 => k_is); (case c14 => k_is); (case k14 => k_is); (case a15 => k_is); (case l15 => k_is); (case c15 => k_is); (case k15 => k_is); (case a16 => k_is); (case l16 => k_is); (case c16 => k_is); (case k16 => k_is); (case a17 => k_is); (case l17 => k_is); (case c17 => k_is); (case k17 => k_is); (case a18 => k_is); (case l18 => k_is); (case c18 => k_is); (case k18 => k_is); (case a19 => k_is); (case l19 => k_is); (case c19 => k_is); (case k19 => k_is); (case a20 => k_is); (case l20 => k_is); (case c20 => k_is); (case k20 => k_is); (case a21 => k_is); (case l21 => k_is); (case c21 => k_is); (case k21 => k_is); (case a22 => k_is); (case l22 => k_is); (case c22 => k_is); (case k22 => k_is); (case a23 => k_is); (case l23 => k_is); (case c23 => k_is); (case k23 => k_is); (case z_enumerate => k_is); (case z_int => k_is); (case z_len => k_is); (case z_list => k_is); (case z_max => k_is); (case z_min => k_is); (case z_range => k_is); (case z_repr => k_is); (case z_zip => k_is); (case z_abs => k_is)
