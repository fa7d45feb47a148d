/-
  What is proved here: objects that can be read, strictly or not, are well formed and at most 256 (plain theorems).
-/
import Derived.Test.YtnlhbknajdpnbaaGreatDoorF37
set_option linter.unusedVariables false
set_option linter.unusedSimpArgs false
namespace Go.Proofs.YtnlhbknajdpnbaaGreatDoor
open Go.RowKit
set_option maxRecDepth 8000
def FitO (st:Bool) (K:Nat):Prop:=∀c l t v k rest c',l.length≤4096→pObj st K c l=.ok (t,v,k,rest,c')→(F.cons t v k .nil).fit K∧c'=c+1+k.size
theorem fit_list {st : Bool} {K : Nat} (hK : FitO st K) : ∀ m c l f c', l.length ≤ 4096 → zbH (pObj st K) m c l = .ok (f, c') → f.fit K ∧ c' = c + f.size
 | 0, c, l, f, c', hl, h => by
   simp only [zbH,Except.ok.injEq,Prod.mk.injEq] at h
   obtain ⟨rfl,rfl⟩:=h
   exact ⟨trivial,rfl⟩
 | m + 1, c, [], f, c', hl, h => by
   simp only [zbH,Except.ok.injEq,Prod.mk.injEq] at h
   obtain ⟨rfl,rfl⟩:=h
   exact ⟨trivial,rfl⟩
 | m + 1, c, a :: l, f, c', hl, h => by
   unfold zbH at h
   split at h
   · cases h
   · rename_i t v k r2 c2 heq
     obtain ⟨h1,h3⟩:=hK _ _ _ _ _ _ _ hl heq
     have h4:=(zcb st _ _ _ _ _ _ _ _ heq).1
     split at h
     · cases h
     · rename_i f2 c3 heq2
       obtain ⟨k1,k3⟩:=fit_list hK m c2 r2 f2 c3 (by simp only [List.length_cons] at h4 hl;omega) heq2
       simp only [Except.ok.injEq,Prod.mk.injEq] at h
       obtain ⟨rfl,rfl⟩:=h
       obtain ⟨g1,g2,g3,g4,g5,g7,_⟩:=h1
       exact ⟨⟨g1,g2,g3,g4,g5,g7,k1⟩,by simp only [F.size];omega⟩
theorem fit_mark {st : Bool} {K : Nat} (hK : FitO st K) : ∀ m c l f rest c', l.length ≤ 4096 → zbF (pObj st K) m c l = .ok (f, rest, c') → f.fit K ∧ c' = c + f.size
 | 0,c,l,f,rest,c',hl,h=>by simp [zbF] at h
 | m + 1, c, l, f, rest, c', hl, h => by
   unfold zbF at h
   split at h
   · cases h
   · split at h
     · simp only [Except.ok.injEq, Prod.mk.injEq] at h
       obtain ⟨rfl,_,rfl⟩:=h
       exact ⟨trivial,rfl⟩
     · split at h
       · cases h
       · rename_i t v k r2 c2 heq
         obtain ⟨h1,h3⟩:=hK _ _ _ _ _ _ _ hl heq
         have h4:=(zcb st _ _ _ _ _ _ _ _ heq).1
         split at h
         · cases h
         · rename_i f2 r3 c3 heq2
           obtain ⟨k1,k3⟩:=fit_mark hK m c2 r2 f2 r3 c3 (by omega) heq2
           simp only [Except.ok.injEq,Prod.mk.injEq] at h
           obtain ⟨rfl,_,rfl⟩:=h
           obtain ⟨g1,g2,g3,g4,g5,g7,_⟩:=h1
           exact ⟨⟨g1,g2,g3,g4,g5,g7,k1⟩,by simp only [F.size];omega⟩
theorem hdr_tag {l : List UInt8} (h : hdrE l = 0) : tagE l = 0 := by
 unfold hdrE at h
 split at h
 · exact absurd h (by assumption)
 · omega
theorem fit_obj (st : Bool) : ∀ K, FitO st K
 | 0 => by
   intro c l t v k rest c' hl h
   unfold pObj at h
   split at h <;> cases h
 | K + 1 => by
   intro c l t v k rest c' hl h
   unfold pObj at h
   split at h
   · cases h
   · rename_i hE
     have hE:hdrE l=0:=by omega
     have hv:=(tag_back (hdr_tag hE)).2
     split at h
     · cases h
     · rename_i hA
       have hA:admE st (tagV l) (hdrF l) (hdrN l) (8 - (K:Int)) c=0:=by omega
       have hll:(l.drop (hdrS l)).length≤4096:=by rw [List.length_drop];omega
       split at h
       · rename_i h128
         have hcb : zaE (tagV l : Nat) = true := by
          cases hq:zaE (tagV l:Nat)
          · unfold admE at hA
            rw [if_pos (.inl ⟨h128,hq⟩)] at hA
            omega
          · rfl
         split at h
         · cases h
         · rename_i f2 r2 c2 heq
           obtain ⟨k1,k3⟩:=fit_mark (fit_obj st K) _ _ _ _ _ _ hll heq
           simp only [Except.ok.injEq,Prod.mk.injEq] at h
           obtain ⟨rfl,rfl,rfl,rfl,rfl⟩:=h
           exact ⟨⟨by omega,hv,fun _=>rfl,(fun h=>by rw [hcb] at h;cases h),by simp,k1,trivial⟩,k3⟩
       · split at h
         · cases h
         · rename_i hN
           split at h
           · rename_i hcb
             simp only [Except.ok.injEq,Prod.mk.injEq] at h
             obtain ⟨rfl,rfl,rfl,rfl,rfl⟩:=h
             have hvl:((l.drop (hdrS l)).take (hdrN l)).length=hdrN l:=by rw [List.length_take];omega
             exact ⟨⟨by omega,hv,(fun h=>by rw [hcb] at h;cases h),fun _=>rfl,by omega,trivial,trivial⟩,rfl⟩
           · rename_i hcb
             have hcb : zaE (tagV l : Nat) = true := by
              cases hq:zaE (tagV l:Nat)
              · exact absurd hq hcb
              · rfl
             split at h
             · cases h
             · rename_i f2 c2 heq
               obtain ⟨k1,k3⟩:=fit_list (fit_obj st K) _ _ _ _ _ (by rw [List.length_take];omega) heq
               simp only [Except.ok.injEq,Prod.mk.injEq] at h
               obtain ⟨rfl,rfl,rfl,rfl,rfl⟩:=h
               exact ⟨⟨by omega,hv,fun _=>rfl,(fun h=>by rw [hcb] at h;cases h),by simp,k1,trivial⟩,k3⟩
theorem zgw {st : Bool} {b : List UInt8} {f : F} {n : Nat} (h : zcu st b = .ok (f, n)) : f.fit 8 ∧ f.size ≤ 256 := by
 unfold zcu at h
 split at h
 · cases h
 · obtain ⟨h1, h3⟩ := fit_list (fit_obj st 8) _ _ _ _ _ (by omega) h
   have h4:=zdV (zcb st 8) _ _ _ (by omega) h
   exact ⟨h1,by omega⟩
end Go.Proofs.YtnlhbknajdpnbaaGreatDoor
